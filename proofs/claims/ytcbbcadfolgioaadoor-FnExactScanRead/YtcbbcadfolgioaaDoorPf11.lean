/-
  Texts of the proof, put together.
-/
import Derived.Test.YtcbbcadfolgioaaDoorPf10
import Derived.Deep.CutRange
namespace Go.Proofs.YtcbbcadfolgioaaDoor
open Go.RowKit Go.Joins RastMath PassMath
def FromPost (W H:Int) (m:Nat) (R:Nat→Ras) (w:World) (e:Ending) (w':World):Prop:=
 ((FromR W H m R∧∃ S,e=.returned (.tuple #[rasA (joinR W H R) (some ⟨S,0,none⟩) (joinR W H R).n,.bool true])∧Came w' (some ⟨S,0,none⟩) (joinR W H R).n (joinR W H R).f∧w.heap.size≤S)∨(¬ FromR W H m R∧e=.returned (.tuple #[rasZ,.bool false])))∧Below w.heap.size w w'
set_option maxRecDepth 100000 in
set_option maxHeartbeats 12800000 in
theorem specFrom_main (W H N:Nat) (a:Option Addr) (c:Nat) (R:Nat→Ras) (w:World) (hC:RCame w a 7 R) (hW:1≤W∧W≤24) (hH:1≤H∧H≤24) (hD:DepthR (R 0).x2 (R 0).x3) (hN:chan (R 0).x2=(N:Int)) (hN1:1≤N∧N≤4) (hn:∀ j,j < 7→(R j).n≤1048576):
  Calls Tryd.prog 27 #[.int .i64 (W:Int),.int .i64 (H:Int),.slice a 7 c] w (FromPost (W:Int) (H:Int) 7 R w):=by
 have s0:=specSide (W:Int)
 have s1:=specSide (H:Int)
 rw[decide_eq_true (show SideR (W:Int) from ⟨by omega,by omega⟩)] at s0
 rw[decide_eq_true (show SideR (H:Int) from ⟨by omega,by omega⟩)] at s1
 have s2:=specDepthOk (R 0).x2 (R 0).x3
 rw[decide_eq_true hD] at s2
 have hch:=specChannels (R 0).x2
 rw[hN] at hch
 obtain⟨WH,hWH⟩:∃ WH,WH=W * H:=⟨_,rfl⟩
 obtain⟨T,hT⟩:∃ T,T=W * H * N:=⟨_,rfl⟩
 have f1:(W:Int) * (H:Int)=(WH:Int):=by rw [hWH]; simp
 have f2:(WH:Int) * (N:Int)=(T:Int):=by rw [hT,hWH]; simp
 have hWHb:WH≤576:=by rw [hWH]; exact Nat.mul_le_mul hW.2 hH.2
 have hTb:T≤2304:=by rw [hT,← hWH]; exact Nat.mul_le_mul hWHb hN1.2
 have HT:=hid_of hT
 have wWH:IntKind.i64.wrap (WH:Int)=(WH:Int):=by rw [IntKind.wrap_i64]; omega
 have wT:IntKind.i64.wrap (T:Int)=(T:Int):=by rw [IntKind.wrap_i64]; omega
 obtain⟨g,off,A,C,rfl,hg,hc⟩:∃ (g off:Nat) (A:Nat→Option Addr) (C:Nat→Nat),a=some ⟨g,off,none⟩∧g < w.heap.size∧∀ j,j < 7→RasAt w g (off+j * 5) (R j) (A j) (C j)∧Came w (A j) (R j).n (R j).f∧(R j).n≤C j∧C j≤maxLen:=by
  rcases hC with q | q
  ·omega
  ·exact q
 have HC:=hid_of hc
 have HN:=hid_of hn
 obtain⟨⟨_,_,k2,k3,_⟩,_⟩:=hc 0 (by omega)
 have c2:(w.alloc zeroO).cell? ⟨g,off+2,none⟩=some (.int .i64 (R 0).x2):=by rw [grow_cell _ hg]; simpa using k2
 have c3:(w.alloc zeroO).cell? ⟨g,off+3,none⟩=some (.int .i64 (R 0).x3):=by rw [grow_cell _ hg]; simpa using k3
 have hg2:g < (w.alloc zeroO).heap.size:=grow_lt _ hg
 have HBZ:=hid_of (bstart w zeroO)
 have HZ0:Hid ((w.alloc zeroO).heap[w.heap.size]?=some (.cells #[.int .i64 0,.int .i64 0,.int .i64 0,.int .i64 0,.slice none 0 0] 26 (0,0))):=heap_alloc_new w _
 have HJ:Hid (joinR (W:Int) (H:Int) R=⟨(W:Int),(H:Int),(R 0).x2,(R 0).x3,T,joinF W H N (fun p k=>(R p).f k)⟩):=by
  show _=_
  unfold joinR
  rw[hN,hT]
  rfl
 have HCH:=hid_of hN
 clear hc k2 k3 hC hD hN hWH hT hn
 have HX2:Hid (∃ y,y=R 0):=⟨_,rfl⟩
 go_enter Tryd.func27,Tryd.ntmps27
 go_wp2_with fail
 generalize hW0:w.alloc zeroO=W0 at *
 have HW0:=hid_of hW0
 clear hW0
 go_quiet ((first | (go_at_call 56; first | exact Calls.quiet_of_same (s0 _) | exact Calls.quiet_of_same (s1 _)) | (go_at_call 57; exact Calls.quiet_of_same (s2 _))))
 go_wp2_with fail
 refine (hch _).mono ?_
 rintro e w1 ⟨rfl,rfl⟩
 go_wp2_with fail
 have hmk:=fun V=>make_ints V T (by omega)
 generalize hJq:joinF W H N (fun p k=>(R p).f k)=J at HJ
 have HJQ:=hid_of hJq
 clear hJq
 go_cut [9] from 54 to 70 (fun q wx=>∃ O S,q=.pointer (some ⟨O,0,none⟩)∧Hid (FrmI w wx O S T (W:Int) (H:Int) (R 0).x2 (R 0).x3 J (fun _=>False)))
 case first=>
  have g0:(W0.drewN nq).heap.size=W0.heap.size:=rfl
  refine wp_region_held (S:=fun u=>u.cell? ⟨g,off+2,none⟩=some (.int .i64 (R 0).x2)∧u.cell? ⟨g,off+3,none⟩=some (.int .i64 (R 0).x3)) (by kernel_rfl) ?_
  have HS:(W0.drewN nq).drew.cell? ⟨g,off+2,none⟩=some (.int .i64 (R 0).x2)∧(W0.drewN nq).drew.cell? ⟨g,off+3,none⟩=some (.int .i64 (R 0).x3):=⟨c2,c3⟩
  have hg3:g < (W0.drewN nq).drew.heap.size:=hg2
  have HBD:Hid (Below w.heap.size w (W0.drewN nq).drew):=bdraws HBZ.out (nq+1)
  have HZD:Hid ((W0.drewN nq).drew.heap[w.heap.size]?=some (.cells #[.int .i64 0,.int .i64 0,.int .i64 0,.int .i64 0,.slice none 0 0] 26 (0,0))):=HZ0.out
  show wpAnyH _ _ _ _ _ _ _ _ (W0.drewN nq).drew
  generalize (W0.drewN nq).drew=V0 at HS hg3 HBD HZD ⊢
  refine wpAnyH_take (i:=0) (v:=.int .i64 (W:Int)) rfl (by kernel_rfl) (by kernel_rfl) (by kernel_rfl) (fun _ _ _ h=>h) (Or.inl ⟨by rfl,?_⟩) HS ?_
  ·intro w' hS
   obtain⟨s0,s1⟩:=hS
   go_simp
  simp only [Act.put,List.getElem_toArray,List.getElem_cons_zero,List.setIfInBounds_toArray,List.set_cons_zero,List.set_cons_succ]
  refine wpAnyH_take (i:=1) (v:=.int .i64 (H:Int)) rfl (by kernel_rfl) (by kernel_rfl) (by kernel_rfl) (fun _ _ _ h=>h) (Or.inl ⟨by rfl,?_⟩) HS ?_
  ·intro w' hS
   obtain⟨s0,s1⟩:=hS
   go_simp
  simp only [Act.put,List.getElem_toArray,List.getElem_cons_zero,List.getElem_cons_succ,List.setIfInBounds_toArray,List.set_cons_zero,List.set_cons_succ]
  refine wpAnyH_take (i:=2) (v:=.slice (some ⟨g,off,none⟩) 7 c) rfl (by kernel_rfl) (by kernel_rfl) (by kernel_rfl) (fun _ _ _ h=>h) (Or.inl ⟨by rfl,?_⟩) HS ?_
  ·intro w' hS
   obtain⟨s0,s1⟩:=hS
   go_simp
  simp only [Act.put,List.getElem_toArray,List.getElem_cons_zero,List.getElem_cons_succ,List.setIfInBounds_toArray,List.set_cons_zero,List.set_cons_succ]
  refine wpAnyH_take (i:=3) (v:=.pointer (some ⟨g,off,none⟩)) rfl (by kernel_rfl) (by kernel_rfl) (by kernel_rfl) (fun _ _ _ h=>h) (Or.inl ⟨by rfl,?_⟩) HS ?_
  ·intro w' hS
   obtain⟨s0,s1⟩:=hS
   go_simp
  simp only [Act.put,List.getElem_toArray,List.getElem_cons_zero,List.getElem_cons_succ,List.setIfInBounds_toArray,List.set_cons_zero,List.set_cons_succ]
  refine wpAnyH_take (i:=4) (v:=.pointer (some ⟨g,off+2,none⟩)) rfl (by kernel_rfl) (by kernel_rfl) (by kernel_rfl) (fun _ _ _ h=>h) (Or.inl ⟨by rfl,?_⟩) HS ?_
  ·intro w' hS
   obtain⟨s0,s1⟩:=hS
   go_simp
  simp only [Act.put,List.getElem_toArray,List.getElem_cons_zero,List.getElem_cons_succ,List.setIfInBounds_toArray,List.set_cons_zero,List.set_cons_succ]
  refine wpAnyH_take (i:=5) (v:=.int .i64 (R 0).x2) rfl (by kernel_rfl) (by kernel_rfl) (by kernel_rfl) (fun _ _ _ h=>h) (Or.inl ⟨by rfl,?_⟩) HS ?_
  ·intro w' hS
   obtain⟨s0,s1⟩:=hS
   go_simp
  simp only [Act.put,List.getElem_toArray,List.getElem_cons_zero,List.getElem_cons_succ,List.setIfInBounds_toArray,List.set_cons_zero,List.set_cons_succ]
  refine wpAnyH_take (i:=6) (v:=.slice (some ⟨g,off,none⟩) 7 c) rfl (by kernel_rfl) (by kernel_rfl) (by kernel_rfl) (fun _ _ _ h=>h) (Or.inl ⟨by rfl,?_⟩) HS ?_
  ·intro w' hS
   obtain⟨s0,s1⟩:=hS
   go_simp
  simp only [Act.put,List.getElem_toArray,List.getElem_cons_zero,List.getElem_cons_succ,List.setIfInBounds_toArray,List.set_cons_zero,List.set_cons_succ]
  refine wpAnyH_take (i:=7) (v:=.pointer (some ⟨g,off,none⟩)) rfl (by kernel_rfl) (by kernel_rfl) (by kernel_rfl) (fun _ _ _ h=>h) (Or.inl ⟨by rfl,?_⟩) HS ?_
  ·intro w' hS
   obtain⟨s0,s1⟩:=hS
   go_simp
  simp only [Act.put,List.getElem_toArray,List.getElem_cons_zero,List.getElem_cons_succ,List.setIfInBounds_toArray,List.set_cons_zero,List.set_cons_succ]
  refine wpAnyH_take (i:=8) (v:=.pointer (some ⟨g,off+3,none⟩)) rfl (by kernel_rfl) (by kernel_rfl) (by kernel_rfl) (fun _ _ _ h=>h) (Or.inl ⟨by rfl,?_⟩) HS ?_
  ·intro w' hS
   obtain⟨s0,s1⟩:=hS
   go_simp
  simp only [Act.put,List.getElem_toArray,List.getElem_cons_zero,List.getElem_cons_succ,List.setIfInBounds_toArray,List.set_cons_zero,List.set_cons_succ]
  refine wpAnyH_take (i:=9) (v:=.int .i64 (R 0).x3) rfl (by kernel_rfl) (by kernel_rfl) (by kernel_rfl) (fun _ _ _ h=>h) (Or.inl ⟨by rfl,?_⟩) HS ?_
  ·intro w' hS
   obtain⟨s0,s1⟩:=hS
   go_simp
  simp only [Act.put,List.getElem_toArray,List.getElem_cons_zero,List.getElem_cons_succ,List.setIfInBounds_toArray,List.set_cons_zero,List.set_cons_succ]
  refine wpAnyH_take (i:=10) (v:=.int .i64 (W:Int)) rfl (by kernel_rfl) (by kernel_rfl) (by kernel_rfl) (fun _ _ _ h=>h) (Or.inl ⟨by rfl,?_⟩) HS ?_
  ·intro w' hS
   obtain⟨s0,s1⟩:=hS
   go_simp
  simp only [Act.put,List.getElem_toArray,List.getElem_cons_zero,List.getElem_cons_succ,List.setIfInBounds_toArray,List.set_cons_zero,List.set_cons_succ]
  refine wpAnyH_take (i:=11) (v:=.int .i64 (H:Int)) rfl (by kernel_rfl) (by kernel_rfl) (by kernel_rfl) (fun _ _ _ h=>h) (Or.inl ⟨by rfl,?_⟩) HS ?_
  ·intro w' hS
   obtain⟨s0,s1⟩:=hS
   go_simp
  simp only [Act.put,List.getElem_toArray,List.getElem_cons_zero,List.getElem_cons_succ,List.setIfInBounds_toArray,List.set_cons_zero,List.set_cons_succ]
  refine wpAnyH_take (i:=12) (v:=.int .i64 (WH:Int)) rfl (by kernel_rfl) (by kernel_rfl) (by kernel_rfl) (fun _ _ _ h=>h) (Or.inl ⟨by rfl,?_⟩) HS ?_
  ·intro w' hS
   obtain⟨s0,s1⟩:=hS
   go_simp
  simp only [Act.put,List.getElem_toArray,List.getElem_cons_zero,List.getElem_cons_succ,List.setIfInBounds_toArray,List.set_cons_zero,List.set_cons_succ]
  refine wpAnyH_take (i:=13) (v:=.int .i64 (N:Int)) rfl (by kernel_rfl) (by kernel_rfl) (by kernel_rfl) (fun _ _ _ h=>h) (Or.inl ⟨by rfl,?_⟩) HS ?_
  ·intro w' hS
   obtain⟨s0,s1⟩:=hS
   go_simp
  simp only [Act.put,List.getElem_toArray,List.getElem_cons_zero,List.getElem_cons_succ,List.setIfInBounds_toArray,List.set_cons_zero,List.set_cons_succ]
  refine wpAnyH_take (i:=14) (v:=.int .i64 (T:Int)) rfl (by kernel_rfl) (by kernel_rfl) (by kernel_rfl) (fun _ _ _ h=>h) (Or.inl ⟨by rfl,?_⟩) HS ?_
  ·intro w' hS
   obtain⟨s0,s1⟩:=hS
   go_simp
  simp only [Act.put,List.getElem_toArray,List.getElem_cons_zero,List.getElem_cons_succ,List.setIfInBounds_toArray,List.set_cons_zero,List.set_cons_succ]
  refine wpAnyH_ready (rs:=[15,17]) (by kernel_rfl) (by simp) ?_
  refine AllReadyH.cons rfl (fun K hK=>?_) (AllReadyH.cons rfl (fun K hK=>?_) AllReadyH.nil)
  ·refine if_wanted (wanted_none rfl) ?_
   simp only [List.getElem_toArray,List.getElem_cons_zero,List.getElem_cons_succ]
   go_simp
   refine hK.out _ _ ⟨(grow_cell _ hg3 _).trans HS.1,(grow_cell _ hg3 _).trans HS.2⟩ (fun HS2=>?_)
   clear hK K
   refine wpAnyH_take (i:=16) (v:=.agg #[.int .i64 (W:Int),.int .i64 (H:Int),.int .i64 (R 0).x2,.int .i64 (R 0).x3,.slice (some ⟨V0.heap.size,0,none⟩) T T]) rfl (by kernel_rfl) (by kernel_rfl) (by kernel_rfl) (fun _ _ _ h=>h) (Or.inl ⟨by rfl,?_⟩) HS2 ?_
   ·intro w' hS
    obtain⟨s0,s1⟩:=hS
    go_simp
   simp only [Act.put,List.getElem_toArray,List.getElem_cons_zero,List.getElem_cons_succ,List.setIfInBounds_toArray,List.set_cons_zero,List.set_cons_succ]
   refine wpAnyH_ready (rs:=[17]) (by kernel_rfl) (by simp) ?_
   refine AllReadyH.cons rfl (fun K hK=>?_) AllReadyH.nil
   refine if_wanted (wanted_none rfl) ?_
   simp only [List.getElem_toArray,List.getElem_cons_zero,List.getElem_cons_succ]
   go_simp
   refine hK.out _ _ ⟨(grow_cell _ (grow_lt _ hg3) _).trans HS2.1,(grow_cell _ (grow_lt _ hg3) _).trans HS2.2⟩ (fun HS3=>?_)
   clear hK K
   refine wpAnyH_ready (rs:=[18]) (by kernel_rfl) (by simp) ?_
   refine AllReadyH.cons rfl (fun K hK=>?_) AllReadyH.nil
   refine if_wanted (wanted_none rfl) ?_
   simp only [List.getElem_toArray,List.getElem_cons_zero,List.getElem_cons_succ]
   go_simp
   refine hK.out _ _ ⟨(grow_cell _ (grow_lt _ hg3) _).trans ((grow_cell _ hg3 _).trans HS.1),(grow_cell _ (grow_lt _ hg3) _).trans ((grow_cell _ hg3 _).trans HS.2)⟩ (fun _=>?_)
   clear hK K
   refine wpAnyH_done (by kernel_rfl) ?_ _
   go_wp2_with fail
   go_meet
   case rel=>exact⟨_,_,rfl,frm_made1 HBD.out HZD.out (by unfold maxLen; omega)⟩
  ·refine if_wanted (wanted_none rfl) ?_
   simp only [List.getElem_toArray,List.getElem_cons_zero,List.getElem_cons_succ]
   go_simp
   refine hK.out _ _ ⟨(grow_cell _ hg3 _).trans HS.1,(grow_cell _ hg3 _).trans HS.2⟩ (fun HS2=>?_)
   clear hK K
   refine wpAnyH_ready (rs:=[15]) (by kernel_rfl) (by simp) ?_
   refine AllReadyH.cons rfl (fun K hK=>?_) AllReadyH.nil
   refine if_wanted (wanted_none rfl) ?_
   simp only [List.getElem_toArray,List.getElem_cons_zero,List.getElem_cons_succ]
   go_simp
   refine hK.out _ _ ⟨(grow_cell _ (grow_lt _ hg3) _).trans HS2.1,(grow_cell _ (grow_lt _ hg3) _).trans HS2.2⟩ (fun HS3=>?_)
   clear hK K
   refine wpAnyH_take (i:=16) (v:=.agg #[.int .i64 (W:Int),.int .i64 (H:Int),.int .i64 (R 0).x2,.int .i64 (R 0).x3,.slice (some ⟨V0.heap.size+1,0,none⟩) T T]) rfl (by kernel_rfl) (by kernel_rfl) (by kernel_rfl) (fun _ _ _ h=>h) (Or.inl ⟨by rfl,?_⟩) HS3 ?_
   ·intro w' hS
    obtain⟨s0,s1⟩:=hS
    go_simp
   simp only [Act.put,List.getElem_toArray,List.getElem_cons_zero,List.getElem_cons_succ,List.setIfInBounds_toArray,List.set_cons_zero,List.set_cons_succ]
   refine wpAnyH_ready (rs:=[18]) (by kernel_rfl) (by simp) ?_
   refine AllReadyH.cons rfl (fun K hK=>?_) AllReadyH.nil
   refine if_wanted (wanted_none rfl) ?_
   simp only [List.getElem_toArray,List.getElem_cons_zero,List.getElem_cons_succ]
   go_simp
   refine hK.out _ _ ⟨(grow_cell _ (grow_lt _ hg3) _).trans ((grow_cell _ hg3 _).trans HS.1),(grow_cell _ (grow_lt _ hg3) _).trans ((grow_cell _ hg3 _).trans HS.2)⟩ (fun _=>?_)
   clear hK K
   refine wpAnyH_done (by kernel_rfl) ?_ _
   go_wp2_with fail
   go_meet
   case rel=>exact⟨_,_,rfl,frm_made2 HBD.out HZD.out (by unfold maxLen; omega)⟩
 case rest=>
  obtain⟨O,S,rfl,hF0⟩:=hcut
  clear hch s0 s1 s2 c2 c3 hg2 HBZ HZ0 HW0 HX2 hmk f1 f2 wWH wT
  have HPS:Hid (∀ (p:Nat),p < 7→∀ V,Calls Tryd.prog 59 #[.int .i64 (W:Int),.int .i64 (H:Int),.int .i64 (p:Int)] V fun e w'=>e=.returned (.tuple #[.int .i64 (pw W H p:Int),.int .i64 (ph W H p:Int)])∧w'=V):=fun p hp V=>specPassSize_in W H p V hW hH hp
  have HST:Hid (∀ (p:Nat),p < 7→∀ V,Calls Tryd.prog 60 #[.int .i64 (p:Int)] V fun e w'=>e=.returned (.tuple #[.int .i64 (px p:Int),.int .i64 (py p:Int),.int .i64 (pdx p:Int),.int .i64 (pdy p:Int)])∧w'=V):=fun p hp V=>by
   have:=specPassStep (p:Int) V
   unfold stepT at this
   rw[stepV_nat px hp,stepV_nat py hp,stepV_nat pdx hp,stepV_nat pdy hp] at this
   exact this
  have HF0:Hid (FrmI w wc O S T (W:Int) (H:Int) (R 0).x2 (R 0).x3 J (doneM W H N 0 0)):=hF0.out.weaken (fun i _ hd=>by rcases hd with h | h <;> omega)
  have HJV:Hid (∀ p,p < 7→∀ k,k < pw W H p * ph W H p * N→J (posP W H N p k)=(R p).f k):=fun p hp k hk=>by
   rw[← HJQ.out]
   exact join_pass hN1.1 hW.2 hH.2 (fun p k=>(R p).f k) hp hk
  have HNR:Hid (∀ p,p < 7→(R p).n≠pw W H p * ph W H p * N→¬ FromR (W:Int) (H:Int) 7 R):=fun p hp hne h=>by
   have q:=h.2.2 p hp
   obtain⟨W',H',N',e0,e1,e2,_,_,_,_,ep⟩:=ras_parts h.2.1
   rw[ep] at q
   have hx0:(joinR (W:Int) (H:Int) R).x0=(W:Int):=rfl
   have hx1:(joinR (W:Int) (H:Int) R).x1=(H:Int):=rfl
   obtain rfl:W=W':=by have:=hx0.symm.trans e0; omega
   obtain rfl:H=H':=by have:=hx1.symm.trans e1; omega
   obtain rfl:N=N':=by
    have hx2:(joinR (W:Int) (H:Int) R).x2=(R 0).x2:=rfl
    rw[hx2,HCH.out] at e2
    omega
   exact hne q.2.2.2.2.1
  clear hF0
  go_wp2_with fail
  go_loopg [10] 8 (fun gk i w'=>∃ p:Nat,p≤7∧7 - p≤gk∧i=.int .i64 (p:Int)∧Hid (FrmI w w' O S T (W:Int) (H:Int) (R 0).x2 (R 0).x3 J (doneM W H N p 0)))
  case atStart=>exact⟨0,Nat.zero_le _,by omega,rfl,HF0⟩
  case round=>
   clear HF0
   obtain⟨p,hp,hgk,rfl,hI⟩:=hrel
   by_cases hlt:p < 7
   ·have dl:decide ((p:Int) < 7)=true:=decide_eq_true (by omega)
    have hps:=HPS.out p hlt
    have hst:=HST.out p hlt
    obtain⟨⟨_,_,_,_,k4⟩,hca,_,_⟩:=HC.out p hlt
    have j4:wr.cell? ⟨g,off+p * 5+4,none⟩=some (.slice (A p) (R p).n (C p)):=(hI.out.2.2.2.2.2.cell (p:=⟨g,off+p * 5+4,none⟩) hg).trans k4
    have gl:g < wr.heap.size:=Nat.lt_of_lt_of_le hg hI.out.2.2.2.2.2.size
    have b1:=pdx_pos hlt
    have b2:=pdy_pos hlt
    have b3:=px_le hlt
    have b4:=pw_le W H p
    have b5:=ph_le W H p
    have hnp:=HN.out p hlt
    obtain⟨PP,hPP⟩:∃ PP,PP=pw W H p * ph W H p:=⟨_,rfl⟩
    obtain⟨KK,hKK⟩:∃ KK,KK=pw W H p * ph W H p * N:=⟨_,rfl⟩
    have m1:(pw W H p:Int) * (ph W H p:Int)=(PP:Int):=by rw [hPP]; simp
    have m2:(PP:Int) * (N:Int)=(KK:Int):=by rw [hKK,hPP]; simp
    have hPPb:PP≤576:=by rw [hPP]; exact Nat.mul_le_mul (Nat.le_trans b4 hW.2) (Nat.le_trans b5 hH.2)
    have hKKb:KK≤2304:=by rw [hKK,← hPP]; exact Nat.mul_le_mul hPPb hN1.2
    have HKK:=hid_of hKK
    clear hPP hKK k4
    by_cases hnk:(R p).n=KK
    ·have bn:(((R p).n:Int) != (KK:Int))=false:=bne_no (by omega)
     rw[hnk] at hca j4 bn
     have HCA:=hid_of hca
     have HPOS:Hid (∀ k,k < KK→posP W H N p k < T∧J (posP W H N p k)=(R p).f k∧1≤pw W H p∧k / N / pw W H p < ph W H p∧k / N % pw W H p < pw W H p):=fun k hk=>by
      rw[HKK.out] at hk
      obtain⟨q0,_,q2,q3⟩:=k_parts hN1.1 hk
      refine⟨?_,HJV.out p hlt k hk,q0,q2,q3⟩
      rw[HT.out]
      exact pos_lt hN1.1 hlt hk
     have HCOL:Hid (∀ i,i < pw W H p→px p+i * pdx p < W):=fun i hi=>col_lt hlt hi
     have HROW:Hid (∀ j,j < ph W H p→py p+j * pdy p < H):=fun j hj=>row_lt hlt hj
     have HFORM:Hid (∀ k,posP W H N p k=((py p+k / N / pw W H p * pdy p) * W+px p+k / N % pw W H p * pdx p) * N+k % N):=fun k=>rfl
     have HST1:Hid (∀ k,k < KK→∀ i,i < T→doneM W H N p (k+1) i→doneM W H N p k i∨i=posP W H N p k):=fun k hk i hi hd=>by
      rcases hd with q | ⟨q1,q2⟩
      ·exact .inl (.inl q)
      ·by_cases e:idxM W H N i=k
       ·right
        rw[HT.out] at hi
        have q3:=(idx_back hN1.1 hW hH.2 hi).2.2
        rw[q1,e] at q3
        exact q3.symm
       ·exact .inl (.inr ⟨q1,by omega⟩)
     have HST2:Hid (∀ i,i < T→doneM W H N (p+1) 0 i→doneM W H N p KK i):=fun i hi hd=>by
      rcases hd with q | ⟨_,q2⟩
      ·by_cases e:pasM W N i=p
       ·right
        rw[HT.out] at hi
        have q3:=(idx_back hN1.1 hW hH.2 hi).2.1
        rw[e,← HKK.out] at q3
        exact⟨e,q3⟩
       ·exact .inl (by omega)
      ·omega
     have HK4:Hid (w.cell? ⟨g,off+p * 5+4,none⟩=some (.slice (A p) KK (C p))):=by
      have q:=(HC.out p hlt).1.2.2.2.2
      rw[hnk] at q
      exact q
     clear hca hnk hnp
     go_wp2_with fail
     refine (hps _).mono ?_
     rintro e w1 ⟨rfl,rfl⟩
     go_wp2_with fail
     refine (hst _).mono ?_
     rintro e w1 ⟨rfl,rfl⟩
     clear hps hst
     generalize hq1:pw W H p=PW at *
     generalize hq2:ph W H p=PH at *
     generalize hq3:px p=PX at *
     generalize hq4:py p=PY at *
     generalize hq5:pdx p=DX at *
     generalize hq6:pdy p=DY at *
     clear hq1 hq2 hq3 hq4 hq5 hq6
     generalize hq7:posP W H N p=PO at *
     clear hq7
     go_wp2_with fail
     go_loopg [17] (KK+1) (fun gk i w'=>∃ k:Nat,k≤KK∧KK - k≤gk∧i=.int .i64 (k:Int)∧Hid (FrmI w w' O S T (W:Int) (H:Int) (R 0).x2 (R 0).x3 J (doneM W H N p k)))
     case atStart=>exact⟨0,Nat.zero_le _,by omega,rfl,hI⟩
     case round=>
      clear hI j4 gl
      obtain⟨k,hk,hgk2,rfl,hI⟩:=hrel
      by_cases hlk:k < KK
      ·have dlk:decide ((k:Int) < (KK:Int))=true:=decide_eq_true (by omega)
       obtain⟨p1,p2,p3,p4,p5⟩:=HPOS.out k hlk
       have hrow:=HROW.out _ p4
       have hcol:=HCOL.out _ p5
       obtain⟨q,hq⟩:∃ q,q=k / N:=⟨_,rfl⟩
       obtain⟨jj,hjj⟩:∃ jj,jj=q / PW:=⟨_,rfl⟩
       obtain⟨ii,hii⟩:∃ ii,ii=q % PW:=⟨_,rfl⟩
       obtain⟨cc,hcc⟩:∃ cc,cc=k % N:=⟨_,rfl⟩
       have HFK:=HFORM.out k
       rw[← hq,← hjj] at hrow p4
       rw[← hq,← hii] at hcol p5
       rw[← hq,← hjj,← hii,← hcc] at HFK
       have t1:(k:Int).tdiv (N:Int)=(q:Int):=by rw [Int.tdiv_eq_ediv_of_nonneg (by omega),hq]; rfl
       have t2:(q:Int).tdiv (PW:Int)=(jj:Int):=by rw [Int.tdiv_eq_ediv_of_nonneg (by omega),hjj]; rfl
       have t3:(q:Int).tmod (PW:Int)=(ii:Int):=by rw [Int.tmod_eq_emod_of_nonneg (by omega),hii]; rfl
       have t4:(k:Int).tmod (N:Int)=(cc:Int):=by rw [Int.tmod_eq_emod_of_nonneg (by omega),hcc]; rfl
       have hccN:cc < N:=by rw [hcc]; exact Nat.mod_lt _ hN1.1
       have hqk:q≤k:=by rw [hq]; exact Nat.div_le_self _ _
       clear hq hjj hii hcc
       obtain⟨jd,hjd⟩:∃ jd,jd=jj * DY:=⟨_,rfl⟩
       obtain⟨id,hid⟩:∃ id,id=ii * DX:=⟨_,rfl⟩
       rw[← hjd] at hrow HFK
       rw[← hid] at hcol HFK
       obtain⟨yw,hyw⟩:∃ yw,yw=(PY+jd) * W:=⟨_,rfl⟩
       rw[← hyw] at HFK
       obtain⟨AT,hAT⟩:∃ AT,AT=(yw+PX+id) * N:=⟨_,rfl⟩
       rw[← hAT] at HFK
       obtain⟨POS,hPOS⟩:∃ POS,POS=PO k:=⟨_,rfl⟩
       rw[← hPOS] at HFK p1 p2
       have e1:(jj:Int) * (DY:Int)=(jd:Int):=by rw [hjd]; simp
       have e2:((PY:Int)+(jd:Int)) * (W:Int)=(yw:Int):=by rw [hyw]; simp
       have e3:(ii:Int) * (DX:Int)=(id:Int):=by rw [hid]; simp
       have e4:((yw:Int)+(PX:Int)+(id:Int)) * (N:Int)=(AT:Int):=by rw [hAT]; simp
       have e5:(AT:Int)+(cc:Int)=(POS:Int):=by omega
       have hyw1:yw≤600:=by
        have:=Nat.mul_le_mul (show PY+jd≤24 by omega) hW.2
        omega
       have HPK:=hid_of hPOS
       have v1:IntKind.i64.wrap (jd:Int)=(jd:Int):=by rw [IntKind.wrap_i64]; omega
       have v2:IntKind.i64.wrap ((PY:Int)+(jd:Int))=(PY:Int)+(jd:Int):=by rw [IntKind.wrap_i64]; omega
       have v3:IntKind.i64.wrap (yw:Int)=(yw:Int):=by rw [IntKind.wrap_i64]; omega
       have v4:IntKind.i64.wrap ((yw:Int)+(PX:Int))=(yw:Int)+(PX:Int):=by rw [IntKind.wrap_i64]; omega
       have v5:IntKind.i64.wrap (id:Int)=(id:Int):=by rw [IntKind.wrap_i64]; omega
       have v6:IntKind.i64.wrap ((yw:Int)+(PX:Int)+(id:Int))=(yw:Int)+(PX:Int)+(id:Int):=by rw [IntKind.wrap_i64]; omega
       have v7:IntKind.i64.wrap (AT:Int)=(AT:Int):=by rw [IntKind.wrap_i64]; omega
       have v8:IntKind.i64.wrap (POS:Int)=(POS:Int):=by rw [IntKind.wrap_i64]; omega
       have v9:IntKind.i64.wrap (cc:Int)=(cc:Int):=by rw [IntKind.wrap_i64]; omega
       have n1:¬ (N:Int)=0:=by omega
       have n2:¬ (PW:Int)=0:=by omega
       have n3:¬ N=0:=by omega
       have n4:(p:Int) < 7:=by omega
       have n5:¬ (7:Int)≤(p:Int):=by omega
       clear hjd hid hyw hAT hPOS HFK
       obtain⟨_,_,_,_,o4,lo⟩:=hI.out.cells
       obtain⟨⟨zz,y0⟩,y1,y2,y3⟩:=hI.out.sample p1
       have HBI:=hid_of hI.out.2.2.2.2.2
       have j4:wr.cell? ⟨g,off+p * 5+4,none⟩=some (.slice (A p) KK (C p)):=(HBI.out.cell (p:=⟨g,off+p * 5+4,none⟩) hg).trans HK4.out
       have gl:g < wr.heap.size:=Nat.lt_of_lt_of_le hg HBI.out.size
       rcases HCA.out with q0 | ⟨ga,oa,hAp,hga,hce⟩
       ·omega
       have ce:wr.cell? ⟨ga,oa+k,none⟩=some (.int .i64 ((R p).f k)):=(HBI.out.cell (p:=⟨ga,oa+k,none⟩) hga).trans (hce k hlk)
       have gal:ga < wr.heap.size:=Nat.lt_of_lt_of_le hga HBI.out.size
       rw[hAp] at j4
       rw[← p2] at ce
       have hSg:¬ g=S:=by omega
       have hSga:¬ ga=S:=by omega
       have HSO:Hid (S≠O):=hI.out.2.2.2.1
       have HNX:Hid (FrmI w ((wr.setCell ⟨S,POS,none⟩ (.int .i64 (J POS))).drew) O S T (W:Int) (H:Int) (R 0).x2 (R 0).x3 J (doneM W H N p (k+1))):=(hI.out.set p1).weaken (fun i hi hd=>by rw [HPK.out]; exact HST1.out k hlk i hi hd)
       clear hce hAp p2
       go_wp2_with fail
       refine wp_region_held (S:=fun u=>(u.cell? ⟨O,4,none⟩=some (.slice (some ⟨S,0,none⟩) T T)∧u.cell? ⟨g,off+p * 5+4,none⟩=some (.slice (some ⟨ga,oa,none⟩) KK (C p))∧u.cell? ⟨ga,oa+k,none⟩=some (.int .i64 (J POS)))) (by kernel_rfl) ?_
       show wpAnyH _ _ _ _ _ _ _ _ wr.drew
       have HS:wr.drew.cell? ⟨O,4,none⟩=some (.slice (some ⟨S,0,none⟩) T T)∧wr.drew.cell? ⟨g,off+p * 5+4,none⟩=some (.slice (some ⟨ga,oa,none⟩) KK (C p))∧wr.drew.cell? ⟨ga,oa+k,none⟩=some (.int .i64 (J POS)):=⟨o4,j4,ce⟩
       refine wpAnyH_take (i:=0) (v:=.pointer (some ⟨O,4,none⟩)) rfl (by kernel_rfl) (by kernel_rfl) (by kernel_rfl) (fun _ _ _ h=>h) (Or.inl ⟨by rfl,?_⟩) HS ?_
       ·intro w' hS
        obtain⟨s0,s1,s2⟩:=hS
        go_simp
       simp only [Act.put,List.getElem_toArray,List.getElem_cons_zero,List.setIfInBounds_toArray,List.set_cons_zero,List.set_cons_succ]
       refine wpAnyH_take (i:=1) (v:=.slice (some ⟨S,0,none⟩) T T) rfl (by kernel_rfl) (by kernel_rfl) (by kernel_rfl) (fun _ _ _ h=>h) (Or.inl ⟨by rfl,?_⟩) HS ?_
       ·intro w' hS
        obtain⟨s0,s1,s2⟩:=hS
        go_simp
       simp only [Act.put,List.getElem_toArray,List.getElem_cons_zero,List.getElem_cons_succ,List.setIfInBounds_toArray,List.set_cons_zero,List.set_cons_succ]
       refine wpAnyH_take (i:=2) (v:=.int .i64 (PY:Int)) rfl (by kernel_rfl) (by kernel_rfl) (by kernel_rfl) (fun _ _ _ h=>h) (Or.inl ⟨by rfl,?_⟩) HS ?_
       ·intro w' hS
        obtain⟨s0,s1,s2⟩:=hS
        go_simp
       simp only [Act.put,List.getElem_toArray,List.getElem_cons_zero,List.getElem_cons_succ,List.setIfInBounds_toArray,List.set_cons_zero,List.set_cons_succ]
       refine wpAnyH_take (i:=3) (v:=.int .i64 (jj:Int)) rfl (by kernel_rfl) (by kernel_rfl) (by kernel_rfl) (fun _ _ _ h=>h) (Or.inl ⟨by rfl,?_⟩) HS ?_
       ·intro w' hS
        obtain⟨s0,s1,s2⟩:=hS
        go_simp
       simp only [Act.put,List.getElem_toArray,List.getElem_cons_zero,List.getElem_cons_succ,List.setIfInBounds_toArray,List.set_cons_zero,List.set_cons_succ]
       refine wpAnyH_take (i:=4) (v:=.int .i64 (DY:Int)) rfl (by kernel_rfl) (by kernel_rfl) (by kernel_rfl) (fun _ _ _ h=>h) (Or.inl ⟨by rfl,?_⟩) HS ?_
       ·intro w' hS
        obtain⟨s0,s1,s2⟩:=hS
        go_simp
       simp only [Act.put,List.getElem_toArray,List.getElem_cons_zero,List.getElem_cons_succ,List.setIfInBounds_toArray,List.set_cons_zero,List.set_cons_succ]
       refine wpAnyH_take (i:=5) (v:=.int .i64 (jd:Int)) rfl (by kernel_rfl) (by kernel_rfl) (by kernel_rfl) (fun _ _ _ h=>h) (Or.inl ⟨by rfl,?_⟩) HS ?_
       ·intro w' hS
        obtain⟨s0,s1,s2⟩:=hS
        go_simp
       simp only [Act.put,List.getElem_toArray,List.getElem_cons_zero,List.getElem_cons_succ,List.setIfInBounds_toArray,List.set_cons_zero,List.set_cons_succ]
       refine wpAnyH_take (i:=6) (v:=.int .i64 ((PY:Int)+(jd:Int))) rfl (by kernel_rfl) (by kernel_rfl) (by kernel_rfl) (fun _ _ _ h=>h) (Or.inl ⟨by rfl,?_⟩) HS ?_
       ·intro w' hS
        obtain⟨s0,s1,s2⟩:=hS
        go_simp
       simp only [Act.put,List.getElem_toArray,List.getElem_cons_zero,List.getElem_cons_succ,List.setIfInBounds_toArray,List.set_cons_zero,List.set_cons_succ]
       refine wpAnyH_take (i:=7) (v:=.int .i64 (W:Int)) rfl (by kernel_rfl) (by kernel_rfl) (by kernel_rfl) (fun _ _ _ h=>h) (Or.inl ⟨by rfl,?_⟩) HS ?_
       ·intro w' hS
        obtain⟨s0,s1,s2⟩:=hS
        go_simp
       simp only [Act.put,List.getElem_toArray,List.getElem_cons_zero,List.getElem_cons_succ,List.setIfInBounds_toArray,List.set_cons_zero,List.set_cons_succ]
       refine wpAnyH_take (i:=8) (v:=.int .i64 (yw:Int)) rfl (by kernel_rfl) (by kernel_rfl) (by kernel_rfl) (fun _ _ _ h=>h) (Or.inl ⟨by rfl,?_⟩) HS ?_
       ·intro w' hS
        obtain⟨s0,s1,s2⟩:=hS
        go_simp
       simp only [Act.put,List.getElem_toArray,List.getElem_cons_zero,List.getElem_cons_succ,List.setIfInBounds_toArray,List.set_cons_zero,List.set_cons_succ]
       refine wpAnyH_take (i:=9) (v:=.int .i64 (PX:Int)) rfl (by kernel_rfl) (by kernel_rfl) (by kernel_rfl) (fun _ _ _ h=>h) (Or.inl ⟨by rfl,?_⟩) HS ?_
       ·intro w' hS
        obtain⟨s0,s1,s2⟩:=hS
        go_simp
       simp only [Act.put,List.getElem_toArray,List.getElem_cons_zero,List.getElem_cons_succ,List.setIfInBounds_toArray,List.set_cons_zero,List.set_cons_succ]
       refine wpAnyH_take (i:=10) (v:=.int .i64 ((yw:Int)+(PX:Int))) rfl (by kernel_rfl) (by kernel_rfl) (by kernel_rfl) (fun _ _ _ h=>h) (Or.inl ⟨by rfl,?_⟩) HS ?_
       ·intro w' hS
        obtain⟨s0,s1,s2⟩:=hS
        go_simp
       simp only [Act.put,List.getElem_toArray,List.getElem_cons_zero,List.getElem_cons_succ,List.setIfInBounds_toArray,List.set_cons_zero,List.set_cons_succ]
       refine wpAnyH_take (i:=11) (v:=.int .i64 (ii:Int)) rfl (by kernel_rfl) (by kernel_rfl) (by kernel_rfl) (fun _ _ _ h=>h) (Or.inl ⟨by rfl,?_⟩) HS ?_
       ·intro w' hS
        obtain⟨s0,s1,s2⟩:=hS
        go_simp
       simp only [Act.put,List.getElem_toArray,List.getElem_cons_zero,List.getElem_cons_succ,List.setIfInBounds_toArray,List.set_cons_zero,List.set_cons_succ]
       refine wpAnyH_take (i:=12) (v:=.int .i64 (DX:Int)) rfl (by kernel_rfl) (by kernel_rfl) (by kernel_rfl) (fun _ _ _ h=>h) (Or.inl ⟨by rfl,?_⟩) HS ?_
       ·intro w' hS
        obtain⟨s0,s1,s2⟩:=hS
        go_simp
       simp only [Act.put,List.getElem_toArray,List.getElem_cons_zero,List.getElem_cons_succ,List.setIfInBounds_toArray,List.set_cons_zero,List.set_cons_succ]
       refine wpAnyH_take (i:=13) (v:=.int .i64 (id:Int)) rfl (by kernel_rfl) (by kernel_rfl) (by kernel_rfl) (fun _ _ _ h=>h) (Or.inl ⟨by rfl,?_⟩) HS ?_
       ·intro w' hS
        obtain⟨s0,s1,s2⟩:=hS
        go_simp
       simp only [Act.put,List.getElem_toArray,List.getElem_cons_zero,List.getElem_cons_succ,List.setIfInBounds_toArray,List.set_cons_zero,List.set_cons_succ]
       refine wpAnyH_take (i:=14) (v:=.int .i64 ((yw:Int)+(PX:Int)+(id:Int))) rfl (by kernel_rfl) (by kernel_rfl) (by kernel_rfl) (fun _ _ _ h=>h) (Or.inl ⟨by rfl,?_⟩) HS ?_
       ·intro w' hS
        obtain⟨s0,s1,s2⟩:=hS
        go_simp
       simp only [Act.put,List.getElem_toArray,List.getElem_cons_zero,List.getElem_cons_succ,List.setIfInBounds_toArray,List.set_cons_zero,List.set_cons_succ]
       refine wpAnyH_take (i:=15) (v:=.int .i64 (N:Int)) rfl (by kernel_rfl) (by kernel_rfl) (by kernel_rfl) (fun _ _ _ h=>h) (Or.inl ⟨by rfl,?_⟩) HS ?_
       ·intro w' hS
        obtain⟨s0,s1,s2⟩:=hS
        go_simp
       simp only [Act.put,List.getElem_toArray,List.getElem_cons_zero,List.getElem_cons_succ,List.setIfInBounds_toArray,List.set_cons_zero,List.set_cons_succ]
       refine wpAnyH_take (i:=16) (v:=.int .i64 (AT:Int)) rfl (by kernel_rfl) (by kernel_rfl) (by kernel_rfl) (fun _ _ _ h=>h) (Or.inl ⟨by rfl,?_⟩) HS ?_
       ·intro w' hS
        obtain⟨s0,s1,s2⟩:=hS
        go_simp
       simp only [Act.put,List.getElem_toArray,List.getElem_cons_zero,List.getElem_cons_succ,List.setIfInBounds_toArray,List.set_cons_zero,List.set_cons_succ]
       refine wpAnyH_take (i:=17) (v:=.int .i64 (k:Int)) rfl (by kernel_rfl) (by kernel_rfl) (by kernel_rfl) (fun _ _ _ h=>h) (Or.inl ⟨by rfl,?_⟩) HS ?_
       ·intro w' hS
        obtain⟨s0,s1,s2⟩:=hS
        go_simp
       simp only [Act.put,List.getElem_toArray,List.getElem_cons_zero,List.getElem_cons_succ,List.setIfInBounds_toArray,List.set_cons_zero,List.set_cons_succ]
       refine wpAnyH_take (i:=18) (v:=.int .i64 (N:Int)) rfl (by kernel_rfl) (by kernel_rfl) (by kernel_rfl) (fun _ _ _ h=>h) (Or.inl ⟨by rfl,?_⟩) HS ?_
       ·intro w' hS
        obtain⟨s0,s1,s2⟩:=hS
        go_simp
       simp only [Act.put,List.getElem_toArray,List.getElem_cons_zero,List.getElem_cons_succ,List.setIfInBounds_toArray,List.set_cons_zero,List.set_cons_succ]
       refine wpAnyH_take (i:=19) (v:=.int .i64 (cc:Int)) rfl (by kernel_rfl) (by kernel_rfl) (by kernel_rfl) (fun _ _ _ h=>h) (Or.inl ⟨by rfl,?_⟩) HS ?_
       ·intro w' hS
        obtain⟨s0,s1,s2⟩:=hS
        go_simp
       simp only [Act.put,List.getElem_toArray,List.getElem_cons_zero,List.getElem_cons_succ,List.setIfInBounds_toArray,List.set_cons_zero,List.set_cons_succ]
       refine wpAnyH_take (i:=20) (v:=.int .i64 (POS:Int)) rfl (by kernel_rfl) (by kernel_rfl) (by kernel_rfl) (fun _ _ _ h=>h) (Or.inl ⟨by rfl,?_⟩) HS ?_
       ·intro w' hS
        obtain⟨s0,s1,s2⟩:=hS
        go_simp
       simp only [Act.put,List.getElem_toArray,List.getElem_cons_zero,List.getElem_cons_succ,List.setIfInBounds_toArray,List.set_cons_zero,List.set_cons_succ]
       refine wpAnyH_take (i:=21) (v:=.slice (some ⟨g,off,none⟩) 7 c) rfl (by kernel_rfl) (by kernel_rfl) (by kernel_rfl) (fun _ _ _ h=>h) (Or.inl ⟨by rfl,?_⟩) HS ?_
       ·intro w' hS
        obtain⟨s0,s1,s2⟩:=hS
        go_simp
       simp only [Act.put,List.getElem_toArray,List.getElem_cons_zero,List.getElem_cons_succ,List.setIfInBounds_toArray,List.set_cons_zero,List.set_cons_succ]
       refine wpAnyH_take (i:=22) (v:=.int .i64 (p:Int)) rfl (by kernel_rfl) (by kernel_rfl) (by kernel_rfl) (fun _ _ _ h=>h) (Or.inl ⟨by rfl,?_⟩) HS ?_
       ·intro w' hS
        obtain⟨s0,s1,s2⟩:=hS
        go_simp
       simp only [Act.put,List.getElem_toArray,List.getElem_cons_zero,List.getElem_cons_succ,List.setIfInBounds_toArray,List.set_cons_zero,List.set_cons_succ]
       refine wpAnyH_take (i:=23) (v:=.pointer (some ⟨g,off+p * 5,none⟩)) rfl (by kernel_rfl) (by kernel_rfl) (by kernel_rfl) (fun _ _ _ h=>h) (Or.inl ⟨by rfl,?_⟩) HS ?_
       ·intro w' hS
        obtain⟨s0,s1,s2⟩:=hS
        go_simp
       simp only [Act.put,List.getElem_toArray,List.getElem_cons_zero,List.getElem_cons_succ,List.setIfInBounds_toArray,List.set_cons_zero,List.set_cons_succ]
       refine wpAnyH_take (i:=24) (v:=.pointer (some ⟨g,off+p * 5+4,none⟩)) rfl (by kernel_rfl) (by kernel_rfl) (by kernel_rfl) (fun _ _ _ h=>h) (Or.inl ⟨by rfl,?_⟩) HS ?_
       ·intro w' hS
        obtain⟨s0,s1,s2⟩:=hS
        go_simp
       simp only [Act.put,List.getElem_toArray,List.getElem_cons_zero,List.getElem_cons_succ,List.setIfInBounds_toArray,List.set_cons_zero,List.set_cons_succ]
       refine wpAnyH_take (i:=25) (v:=.slice (some ⟨ga,oa,none⟩) KK (C p)) rfl (by kernel_rfl) (by kernel_rfl) (by kernel_rfl) (fun _ _ _ h=>h) (Or.inl ⟨by rfl,?_⟩) HS ?_
       ·intro w' hS
        obtain⟨s0,s1,s2⟩:=hS
        go_simp
       simp only [Act.put,List.getElem_toArray,List.getElem_cons_zero,List.getElem_cons_succ,List.setIfInBounds_toArray,List.set_cons_zero,List.set_cons_succ]
       refine wpAnyH_take (i:=26) (v:=.int .i64 (k:Int)) rfl (by kernel_rfl) (by kernel_rfl) (by kernel_rfl) (fun _ _ _ h=>h) (Or.inl ⟨by rfl,?_⟩) HS ?_
       ·intro w' hS
        obtain⟨s0,s1,s2⟩:=hS
        go_simp
       simp only [Act.put,List.getElem_toArray,List.getElem_cons_zero,List.getElem_cons_succ,List.setIfInBounds_toArray,List.set_cons_zero,List.set_cons_succ]
       refine wpAnyH_take (i:=27) (v:=.pointer (some ⟨ga,oa+k,none⟩)) rfl (by kernel_rfl) (by kernel_rfl) (by kernel_rfl) (fun _ _ _ h=>h) (Or.inl ⟨by rfl,?_⟩) HS ?_
       ·intro w' hS
        obtain⟨s0,s1,s2⟩:=hS
        go_simp
       simp only [Act.put,List.getElem_toArray,List.getElem_cons_zero,List.getElem_cons_succ,List.setIfInBounds_toArray,List.set_cons_zero,List.set_cons_succ]
       refine wpAnyH_take (i:=28) (v:=.int .i64 (J POS)) rfl (by kernel_rfl) (by kernel_rfl) (by kernel_rfl) (fun _ _ _ h=>h) (Or.inl ⟨by rfl,?_⟩) HS ?_
       ·intro w' hS
        obtain⟨s0,s1,s2⟩:=hS
        go_simp
       simp only [Act.put,List.getElem_toArray,List.getElem_cons_zero,List.getElem_cons_succ,List.setIfInBounds_toArray,List.set_cons_zero,List.set_cons_succ]
       refine wpAnyH_take (i:=29) (v:=.pointer (some ⟨S,POS,none⟩)) rfl (by kernel_rfl) (by kernel_rfl) (by kernel_rfl) (fun _ _ _ h=>h) (Or.inl ⟨by rfl,?_⟩) HS ?_
       ·intro w' hS
        obtain⟨s0,s1,s2⟩:=hS
        go_simp
       simp only [Act.put,List.getElem_toArray,List.getElem_cons_zero,List.getElem_cons_succ,List.setIfInBounds_toArray,List.set_cons_zero,List.set_cons_succ]
       refine wpAnyH_ready (rs:=[30]) (by kernel_rfl) (by simp) ?_
       refine AllReadyH.cons rfl (fun K hK=>?_) AllReadyH.nil
       refine if_wanted (wanted_none rfl) ?_
       simp only [List.getElem_toArray,List.getElem_cons_zero,List.getElem_cons_succ]
       go_simp
       refine hK.out _ _ ⟨by exact (World.cell?_setCell_other _ _ _ _ (by intro e; exact HSO.out (congrArg Addr.block e))).trans o4,by exact (World.cell?_setCell_other _ _ _ _ (by intro e; exact hSg (congrArg Addr.block e).symm)).trans j4,by exact (World.cell?_setCell_other _ _ _ _ (by intro e; exact hSga (congrArg Addr.block e).symm)).trans ce⟩ (fun _=>?_)
       clear hK K
       refine wpAnyH_done (by kernel_rfl) ?_ _
       go_wp2_with fail
       go_roundg (KK - (k+1))
       case measure=>omega
       case rel=>exact⟨k+1,by omega,Nat.le_refl _,by go_num,HNX⟩
      ·obtain rfl:k=KK:=by omega
       have dlk:decide ((k:Int) < (k:Int))=false:=decide_eq_false (by omega)
       have HNX:Hid (FrmI w wr O S T (W:Int) (H:Int) (R 0).x2 (R 0).x3 J (doneM W H N (p+1) 0)):=hI.out.weaken HST2.out
       clear hI
       go_wp2_with fail
       go_roundg (7 - (p+1))
       case measure=>omega
       case rel=>exact⟨p+1,by omega,Nat.le_refl _,by go_num,HNX⟩
    ·have bn:(((R p).n:Int) != (KK:Int))=true:=bne_yes (by omega)
     have HNF:Hid (¬ FromR (W:Int) (H:Int) 7 R):=HNR.out p hlt (by rw [← HKK.out]; exact hnk)
     obtain⟨z0,z1,z2,z3,z4,zf,zl⟩:=hI.out.zero
     have HBI:=hid_of hI.out.2.2.2.2.2
     clear hca
     go_wp2_with fail
     refine (hps _).mono ?_
     rintro e w1 ⟨rfl,rfl⟩
     go_wp2_with fail
     refine (hst _).mono ?_
     rintro e w1 ⟨rfl,rfl⟩
     go_wp2_with fail
     refine bodyPost_ret (v:=.tuple #[rasZ,.bool false]) ?_ rfl ⟨.inr ⟨HNF.out,rfl⟩,?_⟩
     ·simp[results,Tryd.results27,go_sem, *]
     ·iterate 5 refine Below.setCell ?_ (by exact Nat.le_refl _) _
      exact HBI.out
   ·obtain rfl:p=7:=by omega
    have HOW:=hid_of (hI.out.own (fun i _=>.inl (passAt_lt _ _)))
    obtain⟨o0,o1,o2,o3,o4,lo⟩:=hI.out.cells
    have hSb:w.heap.size < S:=by
     have:=HOW.out.base_le
     omega
    by_cases hok:RasOk (joinR (W:Int) (H:Int) R)
    ·have hcall:Calls Tryd.prog 19 #[.agg #[.int .i64 (W:Int),.int .i64 (H:Int),.int .i64 (R 0).x2,.int .i64 (R 0).x3,.slice (some ⟨S,0,none⟩) T T]] wr fun e w'=>∃ a' c',e=.returned (.tuple #[.slice a' 7 c',.bool true])∧RCame w' a' 7 (passesR (joinR (W:Int) (H:Int) R))∧Below wr.heap.size wr w':=by
      have q:=specPassesOf_yes (joinR (W:Int) (H:Int) R) (some ⟨S,0,none⟩) T wr hok (by rw [HJ.out]; exact HOW.out.came) (by rw [HJ.out]; exact Nat.le_refl _) (by unfold maxLen; omega)
      rw[HJ.out] at q ⊢
      exact q
     have HOK:=hid_of hok
     have HSM:Hid (∀ j,(passesR (joinR (W:Int) (H:Int) R) j).n≤1048576):=fun j=>Nat.le_trans (passes_small hok j) (by omega)
     clear hok
     go_wp2_with fail
     refine hcall.mono ?_
     rintro e wq ⟨a9,c9,rfl,hR9,hB9⟩
     have HR9:=hid_of hR9
     have HF9:=hid_of (hI.out.called hB9)
     clear hR9 hB9 hcall hI o0 o1 o2 o3 o4 lo HOW
     go_wp2_with fail
     go_loopg [21,22] 8 (fun gk ok i w'=>∃ (j:Nat) (b:Bool),j≤7∧7 - j≤gk∧i=.int .i64 (j:Int)∧ok=.bool b∧Hid (b=true→∀ p,p < j→(passesR (joinR (W:Int) (H:Int) R) p).same (R p))∧Hid (b=false→¬ FromR (W:Int) (H:Int) 7 R)∧Hid (Below wq.heap.size wq w'))
     case atStart=>exact⟨0,true,Nat.zero_le _,by omega,rfl,rfl,(fun _ p hp=>absurd hp (Nat.not_lt_zero p)),(fun e=>by cases e),Below.refl _ _⟩
     case round=>
      obtain⟨j,b,hj,hgk3,rfl,rfl,hb1,hb2,hBq⟩:=hrel
      have HF:=hid_of (HF9.out.called hBq.out)
      cases b with
      | false=>
       have HNF:=hid_of (hb2.out rfl)
       obtain⟨z0,z1,z2,z3,z4,zf,zl⟩:=HF.out.zero
       have HBI:=hid_of HF.out.2.2.2.2.2
       by_cases hlj:j < 7
       ·have dlj:decide ((j:Int) < 7)=true:=decide_eq_true (by omega)
        go_wp2_with fail
        refine bodyPost_ret (v:=.tuple #[rasZ,.bool false]) ?_ rfl ⟨.inr ⟨HNF.out,rfl⟩,?_⟩
        ·simp[results,Tryd.results27,go_sem, *]
        ·iterate 5 refine Below.setCell ?_ (by exact Nat.le_refl _) _
         exact HBI.out
       ·have dlj:decide ((j:Int) < 7)=false:=decide_eq_false (by omega)
        go_wp2_with fail
        refine bodyPost_ret (v:=.tuple #[rasZ,.bool false]) ?_ rfl ⟨.inr ⟨HNF.out,rfl⟩,?_⟩
        ·simp[results,Tryd.results27,go_sem, *]
        ·iterate 5 refine Below.setCell ?_ (by exact Nat.le_refl _) _
         exact HBI.out
      | true=>
       by_cases hlj:j < 7
       ·have dlj:decide ((j:Int) < 7)=true:=decide_eq_true (by omega)
        rcases HR9.out.called hBq.out with q | ⟨g1,o1,A1,C1,rfl,hg1,hc1⟩
        ·omega
        obtain⟨ka,ca,_⟩:=hc1 j hlj
        obtain⟨kb0,cb0,_⟩:=HC.out j hlj
        have HBI:=hid_of HF.out.2.2.2.2.2
        have kb:RasAt wr g (off+j * 5) (R j) (A j) (C j):=kb0.keep (HBI.out.block _ hg)
        have cb:Came wr (A j) (R j).n (R j).f:=cb0.called HBI.out
        have hg2:g < wr.heap.size:=Nat.lt_of_lt_of_le hg HBI.out.size
        have heq:=fun (V:World) (h1:Came V (A1 j) (passesR (joinR (W:Int) (H:Int) R) j).n (passesR (joinR (W:Int) (H:Int) R) j).f) (h2:Came V (A j) (R j).n (R j).f)=>specSame14 (passesR (joinR (W:Int) (H:Int) R) j) (R j) (A1 j) (A j) (C1 j) (C j) V h1 h2 (HSM.out j)
        have HCa:=hid_of ca
        have HCb:=hid_of cb
        have HNXT:Hid (∀ b:Bool,(b=true↔(passesR (joinR (W:Int) (H:Int) R) j).same (R j))→(b=true→∀ p,p < j+1→(passesR (joinR (W:Int) (H:Int) R) p).same (R p))∧(b=false→¬ FromR (W:Int) (H:Int) 7 R)):=fun b hb=>by
         refine⟨fun e p hp=>?_,fun e h=>?_⟩
         ·by_cases q:p=j
          ·rw[q]; exact hb.mp e
          ·exact hb1.out rfl p (by omega)
         ·have:=hb.mpr (h.2.2 j hlj).symm
          rw[e] at this
          cases this
        have x7:(j:Int) < 7:=by omega
        have x8:¬ (7:Int)≤(j:Int):=by omega
        clear hc1 ca cb kb0 cb0
        generalize passesR (joinR (W:Int) (H:Int) R) j=r at *
        generalize R j=s at *
        generalize A1 j=y1 at *
        generalize A j=y2 at *
        generalize C1 j=u1 at *
        generalize C j=u2 at *
        go_wp2_with fail
        refine wp_region_held (S:=fun u=>RasAt u g1 (o1+j * 5) r y1 u1∧RasAt u g (off+j * 5) s y2 u2) (by kernel_rfl) ?_
        show wpAnyH _ _ _ _ _ _ _ _ wr.drew
        have HS:RasAt wr.drew g1 (o1+j * 5) r y1 u1∧RasAt wr.drew g (off+j * 5) s y2 u2:=⟨ka,kb⟩
        refine wpAnyH_take (i:=0) (v:=.slice (some ⟨g1,o1,none⟩) 7 c9) rfl (by kernel_rfl) (by kernel_rfl) (by kernel_rfl) (fun _ _ _ h=>h) (Or.inl ⟨by rfl,?_⟩) HS ?_
        ·intro w' hS
         obtain⟨⟨s0,s1,s2,s3,s4⟩,⟨t0,t1,t2,t3,t4⟩⟩:=hS
         go_simp
        simp only [Act.put,List.getElem_toArray,List.getElem_cons_zero,List.setIfInBounds_toArray,List.set_cons_zero,List.set_cons_succ]
        refine wpAnyH_take (i:=1) (v:=.int .i64 (j:Int)) rfl (by kernel_rfl) (by kernel_rfl) (by kernel_rfl) (fun _ _ _ h=>h) (Or.inl ⟨by rfl,?_⟩) HS ?_
        ·intro w' hS
         obtain⟨⟨s0,s1,s2,s3,s4⟩,⟨t0,t1,t2,t3,t4⟩⟩:=hS
         go_simp
        simp only [Act.put,List.getElem_toArray,List.getElem_cons_zero,List.getElem_cons_succ,List.setIfInBounds_toArray,List.set_cons_zero,List.set_cons_succ]
        refine wpAnyH_take (i:=2) (v:=.pointer (some ⟨g1,o1+j * 5,none⟩)) rfl (by kernel_rfl) (by kernel_rfl) (by kernel_rfl) (fun _ _ _ h=>h) (Or.inl ⟨by rfl,?_⟩) HS ?_
        ·intro w' hS
         obtain⟨⟨s0,s1,s2,s3,s4⟩,⟨t0,t1,t2,t3,t4⟩⟩:=hS
         go_simp
        simp only [Act.put,List.getElem_toArray,List.getElem_cons_zero,List.getElem_cons_succ,List.setIfInBounds_toArray,List.set_cons_zero,List.set_cons_succ]
        refine wpAnyH_take (i:=3) (v:=rasA r y1 u1) rfl (by kernel_rfl) (by kernel_rfl) (by kernel_rfl) (fun _ _ _ h=>h) (Or.inl ⟨by rfl,?_⟩) HS ?_
        ·intro w' hS
         obtain⟨⟨s0,s1,s2,s3,s4⟩,⟨t0,t1,t2,t3,t4⟩⟩:=hS
         go_simp
        simp only [Act.put,List.getElem_toArray,List.getElem_cons_zero,List.getElem_cons_succ,List.setIfInBounds_toArray,List.set_cons_zero,List.set_cons_succ]
        refine wpAnyH_take (i:=4) (v:=.slice (some ⟨g,off,none⟩) 7 c) rfl (by kernel_rfl) (by kernel_rfl) (by kernel_rfl) (fun _ _ _ h=>h) (Or.inl ⟨by rfl,?_⟩) HS ?_
        ·intro w' hS
         obtain⟨⟨s0,s1,s2,s3,s4⟩,⟨t0,t1,t2,t3,t4⟩⟩:=hS
         go_simp
        simp only [Act.put,List.getElem_toArray,List.getElem_cons_zero,List.getElem_cons_succ,List.setIfInBounds_toArray,List.set_cons_zero,List.set_cons_succ]
        refine wpAnyH_take (i:=5) (v:=.int .i64 (j:Int)) rfl (by kernel_rfl) (by kernel_rfl) (by kernel_rfl) (fun _ _ _ h=>h) (Or.inl ⟨by rfl,?_⟩) HS ?_
        ·intro w' hS
         obtain⟨⟨s0,s1,s2,s3,s4⟩,⟨t0,t1,t2,t3,t4⟩⟩:=hS
         go_simp
        simp only [Act.put,List.getElem_toArray,List.getElem_cons_zero,List.getElem_cons_succ,List.setIfInBounds_toArray,List.set_cons_zero,List.set_cons_succ]
        refine wpAnyH_take (i:=6) (v:=.pointer (some ⟨g,off+j * 5,none⟩)) rfl (by kernel_rfl) (by kernel_rfl) (by kernel_rfl) (fun _ _ _ h=>h) (Or.inl ⟨by rfl,?_⟩) HS ?_
        ·intro w' hS
         obtain⟨⟨s0,s1,s2,s3,s4⟩,⟨t0,t1,t2,t3,t4⟩⟩:=hS
         go_simp
        simp only [Act.put,List.getElem_toArray,List.getElem_cons_zero,List.getElem_cons_succ,List.setIfInBounds_toArray,List.set_cons_zero,List.set_cons_succ]
        refine wpAnyH_take (i:=7) (v:=rasA s y2 u2) rfl (by kernel_rfl) (by kernel_rfl) (by kernel_rfl) (fun _ _ _ h=>h) (Or.inl ⟨by rfl,?_⟩) HS ?_
        ·intro w' hS
         obtain⟨⟨s0,s1,s2,s3,s4⟩,⟨t0,t1,t2,t3,t4⟩⟩:=hS
         go_simp
        simp only [Act.put,List.getElem_toArray,List.getElem_cons_zero,List.getElem_cons_succ,List.setIfInBounds_toArray,List.set_cons_zero,List.set_cons_succ]
        refine wpAnyH_ready (rs:=[8]) (by kernel_rfl) (by simp) ?_
        refine AllReadyH.cons rfl (fun K hK=>?_) AllReadyH.nil
        refine if_wanted (wanted_none rfl) ?_
        simp only [List.getElem_toArray,List.getElem_cons_zero,List.getElem_cons_succ]
        go_simp
        refine (heq wr.drew HCa.out HCb.out).mono ?_
        rintro e w4 ⟨b,rfl,hbb,hB4⟩
        have HB4:Hid (Below wr.heap.size wr w4):=⟨hB4.1,hB4.2,hB4.3,hB4.4,hB4.5⟩
        have HNB:=hid_of (HNXT.out b hbb)
        clear hB4 hbb HNXT
        refine hK.out _ _ ⟨ka.keep (HB4.out.block _ hg1),kb.keep (HB4.out.block _ hg2)⟩ (fun HS2=>?_)
        clear hK K HS
        refine wpAnyH_take (i:=9) (v:=.bool b) rfl (by kernel_rfl) (by kernel_rfl) (by kernel_rfl) (fun _ _ _ h=>h) (Or.inl ⟨by rfl,?_⟩) HS2 ?_
        ·intro w' hS
         obtain⟨⟨s0,s1,s2,s3,s4⟩,⟨t0,t1,t2,t3,t4⟩⟩:=hS
         go_simp
        simp only [Act.put,List.getElem_toArray,List.getElem_cons_zero,List.getElem_cons_succ,List.setIfInBounds_toArray,List.set_cons_zero,List.set_cons_succ]
        refine wpAnyH_done (by kernel_rfl) ?_ _
        go_wp2_with fail
        go_roundg (7 - (j+1))
        case measure=>omega
        case rel=>exact⟨j+1,b,by omega,Nat.le_refl _,by go_num,rfl,HNB.out.1,HNB.out.2,bnext hBq.out HB4.out⟩
       ·obtain rfl:j=7:=by omega
        have HYES:Hid (FromR (W:Int) (H:Int) 7 R):=⟨rfl,HOK.out,fun p hp=>(hb1.out rfl p hp).symm⟩
        obtain⟨z0,z1,z2,z3,z4,zf,zl⟩:=HF.out.zero
        obtain⟨o0,o1,o2,o3,o4,lo⟩:=HF.out.cells
        have HOW:=hid_of (HF.out.own (fun i _=>.inl (passAt_lt _ _)))
        have hOb:¬ O=w.heap.size:=by have:=HF.out.2.2.1; omega
        have HBI:=hid_of HF.out.2.2.2.2.2
        clear HF HF9
        go_wp2_with fail
        refine bodyPost_ret (v:=.tuple #[.agg #[.int .i64 (W:Int),.int .i64 (H:Int),.int .i64 (R 0).x2,.int .i64 (R 0).x3,.slice (some ⟨S,0,none⟩) T T],.bool true]) ?_ rfl ⟨.inl ⟨HYES.out,S,by rw [HJ.out],?_,by have:=HOW.out.base_le; omega⟩,?_⟩
        ·simp[results,Tryd.results27,go_sem, *]
        ·rw[HJ.out]
         show Came _ (some ⟨S,0,none⟩) T J
         refine (HOW.out.keep ?_).came
         iterate 5 rw [heap_setCell_other _ _ _ _ (by show ¬ S=w.heap.size; omega)]
        ·iterate 5 refine Below.setCell ?_ (by exact Nat.le_refl _) _
         exact HBI.out
    ·have hcall:Calls Tryd.prog 19 #[.agg #[.int .i64 (W:Int),.int .i64 (H:Int),.int .i64 (R 0).x2,.int .i64 (R 0).x3,.slice (some ⟨S,0,none⟩) T T]] wr fun e w'=>∃ a' c',e=.returned (.tuple #[.slice a' 0 c',.bool false])∧Below wr.heap.size wr w':=by
      have q:=specPassesOf_no (joinR (W:Int) (H:Int) R) (some ⟨S,0,none⟩) T wr hok (by rw [HJ.out]; exact HOW.out.came) (by rw [HJ.out]; show T≤1048576; omega)
      rw[HJ.out] at q
      exact q
     have HNF:Hid (¬ FromR (W:Int) (H:Int) 7 R):=fun h=>hok h.2.1
     clear hok
     go_wp2_with fail
     refine hcall.mono ?_
     rintro e wq ⟨a9,c9,rfl,hB9⟩
     have HF9:=hid_of (hI.out.called hB9)
     clear hB9 hcall hI o0 o1 o2 o3 o4 lo HOW
     obtain⟨z0,z1,z2,z3,z4,zf,zl⟩:=HF9.out.zero
     have HBI:=hid_of HF9.out.2.2.2.2.2
     go_wp2_with fail
     go_loopg [21,22] 1 (fun _ ok i w'=>ok=.bool false∧i=.int .i64 0∧w'=wq)
     case atStart=>exact⟨rfl,rfl,rfl⟩
     case round=>
      obtain⟨rfl,rfl,rfl⟩:=hrel
      go_wp2_with fail
      refine bodyPost_ret (v:=.tuple #[rasZ,.bool false]) ?_ rfl ⟨.inr ⟨HNF.out,rfl⟩,?_⟩
      ·simp[results,Tryd.results27,go_sem, *]
      ·iterate 5 refine Below.setCell ?_ (by exact Nat.le_refl _) _
       exact HBI.out
end Go.Proofs.YtcbbcadfolgioaaDoor
