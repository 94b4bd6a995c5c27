/-
  Texts of the proof, put together.
-/
import Derived.Test.YtcbbcadfolgioaaDoorPf05
namespace Go.Proofs.YtcbbcadfolgioaaDoor
section
open Go.RowKit Go.Joins RastMath PassMath
abbrev rasZ:Value:=.agg #[.int .i64 0,.int .i64 0,.int .i64 0,.int .i64 0,.slice none 0 0]
abbrev zeroO:Obj:=.cells #[.int .i64 0,.int .i64 0,.int .i64 0,.int .i64 0,.slice none 0 0] 26
def FromA (W H:Int) (m:Nat) (R:Nat→Ras):Prop:=SideR W∧SideR H∧m=7∧DepthR (R 0).x2 (R 0).x3
theorem FromR.first {W H:Int} {m:Nat} {R:Nat→Ras} (h:FromR W H m R):FromA W H m R:=⟨h.2.1.1,h.2.1.2.1,h.1,h.2.1.2.2.1⟩
set_option maxRecDepth 100000 in
set_option maxHeartbeats 3200000 in
theorem specFrom_side (W H:Int) (v:Value) (w:World) (h:¬ SideR W):
  Calls Tryd.prog 27 #[.int .i64 W,.int .i64 H,v] w fun e w'=>e=.returned (.tuple #[rasZ,.bool false])∧Below w.heap.size w w':=by
 have s0:=specSide W
 rw[decide_eq_false h] at s0
 clear h
 go_enter Tryd.func27,Tryd.ntmps27
 go_wp2_with fail
 go_quiet ((go_at_call 56; exact Calls.quiet_of_same (s0 _)))
 go_wp2_with fail
 refine bodyPost_ret (v:=.tuple #[rasZ,.bool false]) ?_ rfl ⟨rfl,?_⟩
 ·simp[results,Tryd.results27,go_sem]
 ·iterate 5 refine Below.setCell ?_ (by exact Nat.le_refl _) _
  exact bdraws (bstart _ _) _
set_option maxRecDepth 100000 in
set_option maxHeartbeats 3200000 in
theorem specFrom_side2 (W H:Int) (v:Value) (w:World) (h0:SideR W) (h:¬ SideR H):
  Calls Tryd.prog 27 #[.int .i64 W,.int .i64 H,v] w fun e w'=>e=.returned (.tuple #[rasZ,.bool false])∧Below w.heap.size w w':=by
 have s0:=specSide W
 have s1:=specSide H
 rw[decide_eq_true h0] at s0
 rw[decide_eq_false h] at s1
 clear h h0
 go_enter Tryd.func27,Tryd.ntmps27
 go_wp2_with fail
 go_quiet ((go_at_call 56; first | exact Calls.quiet_of_same (s0 _) | exact Calls.quiet_of_same (s1 _)))
 go_wp2_with fail
 refine bodyPost_ret (v:=.tuple #[rasZ,.bool false]) ?_ rfl ⟨rfl,?_⟩
 ·simp[results,Tryd.results27,go_sem]
 ·iterate 5 refine Below.setCell ?_ (by exact Nat.le_refl _) _
  exact bdraws (bstart _ _) _
set_option maxRecDepth 100000 in
set_option maxHeartbeats 3200000 in
theorem specFrom_many (W H:Int) (a:Option Addr) (m c:Nat) (w:World) (h0:SideR W) (h1:SideR H) (h:¬ m=7):
  Calls Tryd.prog 27 #[.int .i64 W,.int .i64 H,.slice a m c] w fun e w'=>e=.returned (.tuple #[rasZ,.bool false])∧Below w.heap.size w w':=by
 have s0:=specSide W
 have s1:=specSide H
 rw[decide_eq_true h0] at s0
 rw[decide_eq_true h1] at s1
 have b7:((m:Int) != 7)=true:=by simp; omega
 clear h h0 h1
 go_enter Tryd.func27,Tryd.ntmps27
 go_wp2_with fail
 go_quiet ((go_at_call 56; first | exact Calls.quiet_of_same (s0 _) | exact Calls.quiet_of_same (s1 _)))
 go_wp2_with fail
 refine bodyPost_ret (v:=.tuple #[rasZ,.bool false]) ?_ rfl ⟨rfl,?_⟩
 ·simp[results,Tryd.results27,go_sem]
 ·iterate 5 refine Below.setCell ?_ (by exact Nat.le_refl _) _
  exact bdraws (bstart _ _) _
set_option maxRecDepth 100000 in
set_option maxHeartbeats 3200000 in
theorem specFrom_depth (W H:Int) (a:Option Addr) (c:Nat) (R:Nat→Ras) (w:World) (hC:RCame w a 7 R) (h0:SideR W) (h1:SideR H) (h:¬ DepthR (R 0).x2 (R 0).x3):
  Calls Tryd.prog 27 #[.int .i64 W,.int .i64 H,.slice a 7 c] w fun e w'=>e=.returned (.tuple #[rasZ,.bool false])∧Below w.heap.size w w':=by
 have s0:=specSide W
 have s1:=specSide H
 rw[decide_eq_true h0] at s0
 rw[decide_eq_true h1] at s1
 have s2:=specDepthOk (R 0).x2 (R 0).x3
 rw[decide_eq_false h] at s2
 obtain⟨g,off,A,C,rfl,hg,hc⟩:∃ (g off:Nat) (A:Nat→Option Addr) (C:Nat→Nat),a=some ⟨g,off,none⟩∧g < w.heap.size∧∀ j,j < 7→RasAt w g (off+j * 5) (R j) (A j) (C j)∧Came w (A j) (R j).n (R j).f∧(R j).n≤C j∧C j≤maxLen:=by
  rcases hC with q | q
  ·omega
  ·exact q
 obtain⟨⟨_,_,k2,k3,_⟩,_⟩:=hc 0 (by omega)
 have c2:(w.alloc zeroO).cell? ⟨g,off+2,none⟩=some (.int .i64 (R 0).x2):=by rw [grow_cell _ hg]; simpa using k2
 have c3:(w.alloc zeroO).cell? ⟨g,off+3,none⟩=some (.int .i64 (R 0).x3):=by rw [grow_cell _ hg]; simpa using k3
 have hg2:g < (w.alloc zeroO).heap.size:=grow_lt _ hg
 have HBZ:=hid_of (bstart w zeroO)
 have z0:(w.alloc zeroO).cell? ⟨w.heap.size,0,none⟩=some (.int .i64 0):=(cell_of_block (heap_alloc_new w _) 0).trans rfl
 have z1:(w.alloc zeroO).cell? ⟨w.heap.size,1,none⟩=some (.int .i64 0):=(cell_of_block (heap_alloc_new w _) 1).trans rfl
 have z2:(w.alloc zeroO).cell? ⟨w.heap.size,2,none⟩=some (.int .i64 0):=(cell_of_block (heap_alloc_new w _) 2).trans rfl
 have z3:(w.alloc zeroO).cell? ⟨w.heap.size,3,none⟩=some (.int .i64 0):=(cell_of_block (heap_alloc_new w _) 3).trans rfl
 have z4:(w.alloc zeroO).cell? ⟨w.heap.size,4,none⟩=some (.slice none 0 0):=(cell_of_block (heap_alloc_new w _) 4).trans rfl
 have zf:∀ k,(w.alloc zeroO).frozen? ⟨w.heap.size,k,none⟩=false:=fun k=>by have hz:=heap_alloc_new w zeroO; unfold World.frozen?; rw [hz]; rfl
 have zl:w.heap.size < (w.alloc zeroO).heap.size:=by simp
 clear h h0 h1 hc k2 k3 hC hg
 generalize (R 0).x2=x2 at *
 generalize (R 0).x3=x3 at *
 go_enter Tryd.func27,Tryd.ntmps27
 go_wp2_with fail
 generalize w.alloc zeroO=W0 at *
 go_quiet ((first | (go_at_call 56; first | exact Calls.quiet_of_same (s0 _) | exact Calls.quiet_of_same (s1 _)) | (go_at_call 57; exact Calls.quiet_of_same (s2 _))))
 go_wp2_with fail
 refine bodyPost_ret (v:=.tuple #[rasZ,.bool false]) ?_ rfl ⟨rfl,?_⟩
 ·simp[results,Tryd.results27,go_sem, *]
 ·iterate 5 refine Below.setCell ?_ (by exact Nat.le_refl _) _
  exact bdraws HBZ.out _
end
section
open Go.RowKit Go.Joins OutMath RastMath
set_option maxRecDepth 100000 in
set_option maxHeartbeats 3200000 in
theorem specRaster (x0 x1 x2 x3:Int) (a:Option Addr) (n cap:Nat) (f:Nat→Int) (w:World) (hC:Came w a n f) (hn:n≤1048576):
  Calls Tryd.prog 50 #[.agg #[.int .i64 x0,.int .i64 x1,.int .i64 x2,.int .i64 x3,.slice a n cap]] w (RasPost x0 x1 x2 x3 n f w):=by
 have hs0:=specSide x0
 have hs1:=specSide x1
 have hd:=specDepthOk x2 x3
 have hc:=specChannels x2
 have HC:=hid_of hC
 have HB:=hid_of (bstart w (.cells #[.int .i64 x0,.int .i64 x1,.int .i64 x2,.int .i64 x3,.slice a n cap] 26))
 clear hC
 by_cases h0:SideR x0
 ·rw[decide_eq_true h0] at hs0
  by_cases h1:SideR x1
  ·rw[decide_eq_true h1] at hs1
   by_cases h2:DepthR x2 x3
   ·rw[decide_eq_true h2] at hd
    have hcr:=chan_range x2
    obtain⟨N,hN⟩:∃ N,N=chan x2:=⟨_,rfl⟩
    rw[← hN] at hc hcr
    have m1:0≤x0 * x1∧x0 * x1≤576:=⟨Int.mul_nonneg (by have:=h0.1; omega) (by have:=h1.1; omega),by
     have:=Int.mul_le_mul h0.2 h1.2 (by have:=h1.1; omega) (by omega)
     omega⟩
    have m2:0≤x0 * x1 * N∧x0 * x1 * N≤2304:=⟨Int.mul_nonneg m1.1 hcr.1,by
     have:=Int.mul_le_mul m1.2 hcr.2 hcr.1 (by omega)
     omega⟩
    obtain⟨p,hp⟩:∃ p,p=x0 * x1:=⟨_,rfl⟩
    have rp:=hp.symm
    rw[← hp] at m1 m2
    obtain⟨q,hq⟩:∃ q,q=p * N:=⟨_,rfl⟩
    have rq:=hq.symm
    rw[← hq] at m2
    have w1:IntKind.i64.wrap p=p:=by rw [IntKind.wrap_i64]; omega
    have w2:IntKind.i64.wrap q=q:=by rw [IntKind.wrap_i64]; omega
    by_cases h3:(n:Int)=q
    ·have e1:((n:Int) == q)=true:=by simpa using h3
     have e2:((n:Int) != q)=false:=by simpa using h3
     have HR:Hid (RasR x0 x1 x2 x3 n f↔Fit12 f n x3.toNat):=⟨fun h=>h.2.2.2.2,fun h=>⟨h0,h1,h2,by rw [← hN,rp,rq]; exact h3,h⟩⟩
     have h5:=five_range (depth_five h2)
     obtain⟨d,rfl⟩:=Int.eq_ofNat_of_zero_le (show 0≤x3 by omega)
     rw[Int.toNat_natCast] at HR
     have hpd:=fun W=>pow_any d W (by omega)
     have hpp:=p2_pos d
     have hp16:p2 d≤65536:=by
      have:=p2_le (show d≤16 by omega)
      rw[show p2 16=65536 by decide +kernel] at this
      exact this
     obtain⟨P,hP⟩:∃ P,P=p2 d:=⟨_,rfl⟩
     rw[← hP] at hpd hpp hp16
     have HP:=hid_of hP
     have wp:IntKind.i64.wrap (P - 1)=P - 1:=by rw [IntKind.wrap_i64]; omega
     have H3:=hid_of h3
     clear h0 h1 h2 hN hp hq h3 hP
     go_enter Tryd.func50,Tryd.ntmps50
     go_wp2_with fail
     go_quiet ((first | (go_at_call 56; first | exact Calls.quiet_of_same (hs0 _) | exact Calls.quiet_of_same (hs1 _)) | (go_at_call 57; exact Calls.quiet_of_same (hd _)) | (go_at_call 58; exact Calls.quiet_of_same (hc _))))
     go_wp2_with fail
     have HX:Hid (((w.alloc (.cells #[.int .i64 x0,.int .i64 x1,.int .i64 x2,.int .i64 (d:Int),.slice a n cap] 26)).drewN nq).heap[w.heap.size]?=some (.cells #[.int .i64 x0,.int .i64 x1,.int .i64 x2,.int .i64 (d:Int),.slice a n cap] 26 (0,0))):=heap_alloc_new w _
     have HW:Hid (Below w.heap.size w ((w.alloc (.cells #[.int .i64 x0,.int .i64 x1,.int .i64 x2,.int .i64 (d:Int),.slice a n cap] 26)).drewN nq)):=bdraws HB.out _
     generalize (w.alloc (.cells #[.int .i64 x0,.int .i64 x1,.int .i64 x2,.int .i64 (d:Int),.slice a n cap] 26)).drewN nq=W1 at HX HW ⊢
     clear HB hs0 hs1 hd hc e1 e2 rp rq w1 w2
     go_loopw [3] (fun i w'=>∃ j:Nat,j≤n∧i=.int .i64 j∧Hid (Fit12 f j d∧Below W1.heap.size W1 w')) (fun i _=>n - (intOf i).toNat)
     case atStart=>exact⟨0,Nat.zero_le _,rfl,fun i hi=>absurd hi (Nat.not_lt_zero i),Below.refl _ _⟩
     case round=>
      obtain⟨j,hj,rfl,hS⟩:=hrel
      have bx:=(hS.out.2.block _ (block_lt HX.out)).trans HX.out
      have k3:wr.cell? ⟨w.heap.size,3,none⟩=some (.int .i64 (d:Int)):=(cell_of_block bx 3).trans rfl
      have k4:wr.cell? ⟨w.heap.size,4,none⟩=some (.slice a n cap):=(cell_of_block bx 4).trans rfl
      have lx:=block_lt bx
      clear bx
      by_cases hlt:j < n
      ·have dl:decide ((j:Int) < (n:Int))=true:=decide_eq_true (by omega)
       rcases HC.out.called HW.out with q0 | ⟨g,off,rfl,hg,hcc⟩
       ·omega
       have c0:wr.cell? ⟨g,off+j,none⟩=some (.int .i64 (f j)):=(hS.out.2.cell (p:=⟨g,off+j,none⟩) hg).trans (hcc j hlt)
       have l0:g < wr.heap.size:=Nat.lt_of_lt_of_le hg hS.out.2.size
       clear hcc
       obtain⟨x,hx⟩:∃ x,x=f j:=⟨_,rfl⟩
       rw[← hx] at c0
       have HX2:=hid_of hx
       clear hx
       by_cases hin:0≤x∧x≤P - 1
       ·have hiy:=fun W=>in_yes x 0 (P - 1) W hin.1 hin.2
        have HN:Hid (Fit12 f (j+1) d):=hS.out.1.next (by rw [← HX2.out]; exact hin.1) (by rw [← HX2.out,← HP.out]; omega)
        have HBw:=hid_of hS.out.2
        clear hin hS
        go_wp2_with fail
        go_quiet ((first | (go_at_call 75; exact Calls.quiet_of_same (hpd _)) | (go_at_call 62; exact Calls.quiet_of_same (hiy _))))
        go_wp2_with fail
        go_roundw
        case rel=>exact⟨j+1,by omega,by go_num,HN.out,bdraws HBw.out _⟩
        case measure=>simp [intOf]; omega
       ·have hiy:=fun W=>in_no x 0 (P - 1) W hin
        have HN:Hid (¬ RasR x0 x1 x2 (d:Int) n f):=fun h=>hin (by have:=HR.out.mp h j hlt; rw [← HX2.out,← HP.out] at this; omega)
        have HBw:=hid_of (bnext HW.out hS.out.2)
        clear hin hS
        go_wp2_with fail
        go_quiet ((first | (go_at_call 75; exact Calls.quiet_of_same (hpd _)) | (go_at_call 62; exact Calls.quiet_of_same (hiy _))))
        go_wp2_with fail
        go_ret
        exact ras_no HN.out (bdraws HBw.out _)
      ·obtain rfl:j=n:=by omega
       have dl:decide ((j:Int) < (j:Int))=false:=decide_eq_false (by omega)
       have HY:Hid (RasR x0 x1 x2 (d:Int) j f):=HR.out.mpr hS.out.1
       have HBw:=hid_of (bnext HW.out hS.out.2)
       clear hS
       go_wp2_with fail
       go_ret
       exact ras_yes HY.out HBw.out
    ·have e1:((n:Int) == q)=false:=by simpa using h3
     have e2:((n:Int) != q)=true:=by simpa using h3
     have HR:Hid (¬ RasR x0 x1 x2 x3 n f):=fun h=>h3 (by have:=h.2.2.2.1; rw [← hN,rp,rq] at this; exact this)
     clear h0 h1 h2 hN hp hq h3
     go_enter Tryd.func50,Tryd.ntmps50
     go_wp2_with fail
     go_quiet ((first | (go_at_call 56; first | exact Calls.quiet_of_same (hs0 _) | exact Calls.quiet_of_same (hs1 _)) | (go_at_call 57; exact Calls.quiet_of_same (hd _)) | (go_at_call 58; exact Calls.quiet_of_same (hc _))))
     go_wp2_with fail
     go_ret
     exact ras_no HR.out (bdraws HB.out _)
   ·rw[decide_eq_false h2] at hd
    have HR:Hid (¬ RasR x0 x1 x2 x3 n f):=fun h=>h2 h.2.2.1
    clear h0 h1 h2
    go_enter Tryd.func50,Tryd.ntmps50
    go_wp2_with fail
    go_quiet ((first | (go_at_call 56; first | exact Calls.quiet_of_same (hs0 _) | exact Calls.quiet_of_same (hs1 _)) | (go_at_call 57; exact Calls.quiet_of_same (hd _)) | (go_at_call 58; exact Calls.quiet_of_same (hc _))))
    go_wp2_with fail
    go_ret
    exact ras_no HR.out (bdraws HB.out _)
  ·rw[decide_eq_false h1] at hs1
   have HR:Hid (¬ RasR x0 x1 x2 x3 n f):=fun h=>h1 h.2.1
   clear h0 h1
   go_enter Tryd.func50,Tryd.ntmps50
   go_wp2_with fail
   go_quiet ((first | (go_at_call 56; first | exact Calls.quiet_of_same (hs0 _) | exact Calls.quiet_of_same (hs1 _)) | (go_at_call 57; exact Calls.quiet_of_same (hd _)) | (go_at_call 58; exact Calls.quiet_of_same (hc _))))
   go_wp2_with fail
   go_ret
   exact ras_no HR.out (bdraws HB.out _)
 ·rw[decide_eq_false h0] at hs0
  have HR:Hid (¬ RasR x0 x1 x2 x3 n f):=fun h=>h0 h.1
  clear h0
  go_enter Tryd.func50,Tryd.ntmps50
  go_wp2_with fail
  go_quiet ((first | (go_at_call 56; first | exact Calls.quiet_of_same (hs0 _) | exact Calls.quiet_of_same (hs1 _)) | (go_at_call 57; exact Calls.quiet_of_same (hd _)) | (go_at_call 58; exact Calls.quiet_of_same (hc _))))
  go_wp2_with fail
  go_ret
  exact ras_no HR.out (bdraws HB.out _)
end
section
namespace PassMath
open RastMath
abbrev PassR (p:Int):Prop:=0≤p∧p≤6
def stepV (f:Nat→Nat) (p:Int):Int:=if PassR p then (f p.toNat:Int) else 0
abbrev SizeR (W H p:Int):Prop:=SideR W∧SideR H∧PassR p
def wideV (W H p:Int):Int:=if SizeR W H p then (pw W.toNat H.toNat p.toNat:Int) else 0
def highV (W H p:Int):Int:=if SizeR W H p then (ph W.toNat H.toNat p.toNat:Int) else 0
theorem wideV_nat {W H p:Nat} (hW:1≤W∧W≤24) (hH:1≤H∧H≤24) (hp:p < 7):wideV W H p=(pw W H p:Int)∧highV W H p=(ph W H p:Int):=by
 have h:SizeR W H p:=⟨⟨by omega,by omega⟩,⟨by omega,by omega⟩,by unfold PassR; omega⟩
 unfold wideV highV
 rw[if_pos h,if_pos h]
 exact⟨rfl,rfl⟩
end PassMath
end
section
open Go.RowKit Go.Joins RastMath PassMath
abbrev stepT (p:Int):Value:=.tuple #[.int .i64 (stepV px p),.int .i64 (stepV py p),.int .i64 (stepV pdx p),.int .i64 (stepV pdy p)]
set_option maxHeartbeats 1600000 in
theorem specPassStep (p:Int) (w:World):Calls Tryd.prog 60 #[.int .i64 p] w fun e w'=>e=.returned (stepT p)∧w'=w:=by
 by_cases h:PassR p
 ·obtain rfl | rfl | rfl | rfl | rfl | rfl | rfl:p=0∨p=1∨p=2∨p=3∨p=4∨p=5∨p=6:=by unfold PassR at h; omega
  all_goals
   clear h
   go_enter Tryd.func60,Tryd.ntmps60
   go_wp2_with fail
   refine bodyPost_ret (v:=stepT _) ?_ rfl ⟨rfl,rfl⟩
   simp[results,Tryd.results60,go_sem,stepT,stepV,PassR,px,py,pdx,pdy]
 ·have e:stepT p=.tuple #[.int .i64 0,.int .i64 0,.int .i64 0,.int .i64 0]:=by unfold stepT stepV; simp only [if_neg h]
  rw[e]
  clear e
  unfold PassR at h
  have b0:(p == 0)=false:=by simp; omega
  have b1:(p == 1)=false:=by simp; omega
  have b2:(p == 2)=false:=by simp; omega
  have b3:(p == 3)=false:=by simp; omega
  have b4:(p == 4)=false:=by simp; omega
  have b5:(p == 5)=false:=by simp; omega
  have b6:(p == 6)=false:=by simp; omega
  clear h
  go_enter Tryd.func60,Tryd.ntmps60
  go_wp2_with fail
  refine bodyPost_ret (v:=.tuple #[.int .i64 0,.int .i64 0,.int .i64 0,.int .i64 0]) ?_ rfl ⟨rfl,rfl⟩
  simp[results,Tryd.results60,go_sem]
theorem specCount (size frm step:Nat) (w:World) (hs:1≤step) (h1:size≤100) (h3:step≤100):Calls Tryd.prog 91 #[.int .i64 (size:Int),.int .i64 (frm:Int),.int .i64 (step:Int)] w fun e w'=>e=.returned (.int .i64 (cntP size frm step:Int))∧w'=w:=by
 have HC:Hid (∀ i,i < cntP size frm step↔frm+i * step < size):=fun i=>cntP_lt hs i
 have hc:cntP size frm step≤size:=cntP_le
 go_enter Tryd.func91,Tryd.ntmps91
 go_wp2_with fail
 go_loop [7,8] (fun n x=>∃ j y:Nat,j≤cntP size frm step∧Hid (y=frm+j * step)∧n=.int .i64 (j:Int)∧x=.int .i64 (y:Int)) (fun n _=>cntP size frm step - (intOf n).toNat)
 case atStart=>exact⟨0,frm,Nat.zero_le _,(by show frm=frm+0 * step; omega),rfl,rfl⟩
 case round=>
  obtain⟨j,y,hj,hy,rfl,rfl⟩:=hrel
  by_cases hlt:j < cntP size frm step
  ·have hys:y < size:=by rw [hy.out]; exact (HC.out j).mp hlt
   have d:decide ((y:Int) < (size:Int))=true:=decide_eq_true (by omega)
   go_wp2_with fail
   go_round
   case rel=>exact⟨j+1,y+step,by omega,(by show y+step=_; rw [hy.out,Nat.add_mul,Nat.one_mul]; omega),by go_num,by go_num⟩
   case measure=>simp [intOf]; omega
  ·obtain rfl:j=cntP size frm step:=by omega
   have hys:¬ y < size:=by rw [hy.out]; exact fun h=>absurd ((HC.out _).mpr h) (Nat.lt_irrefl _)
   have d:decide ((y:Int) < (size:Int))=false:=decide_eq_false (by omega)
   go_wp2_with fail
   go_ret
   exact⟨rfl,rfl⟩
theorem stepV_nat {p:Nat} (f:Nat→Nat) (h:p < 7):stepV f (p:Int)=(f p:Int):=by
 unfold stepV
 rw[if_pos (show PassR (p:Int) from ⟨by omega,by omega⟩)]
 rfl
set_option maxHeartbeats 1600000 in
theorem specPassSize_in (W H p:Nat) (w:World) (hW:1≤W∧W≤24) (hH:1≤H∧H≤24) (hp:p < 7):Calls Tryd.prog 59 #[.int .i64 (W:Int),.int .i64 (H:Int),.int .i64 (p:Int)] w fun e w'=>e=.returned (.tuple #[.int .i64 (pw W H p:Int),.int .i64 (ph W H p:Int)])∧w'=w:=by
 have s0:=fun V=>specSide (W:Int) V
 have s1:=fun V=>specSide (H:Int) V
 rw[decide_eq_true (show SideR (W:Int) from ⟨by omega,by omega⟩)] at s0
 rw[decide_eq_true (show SideR (H:Int) from ⟨by omega,by omega⟩)] at s1
 have s2:=fun V=>in_yes (p:Int) 0 6 V (by omega) (by omega)
 have s3:=fun V=>specPassStep (p:Int) V
 unfold stepT at s3
 rw[stepV_nat px hp,stepV_nat py hp,stepV_nat pdx hp,stepV_nat pdy hp] at s3
 have a1:=pdx_pos hp
 have a2:=pdy_pos hp
 have s4:=fun V=>specCount W (px p) (pdx p) V a1.1 (by omega) (by omega)
 have s5:=fun V=>specCount H (py p) (pdy p) V a2.1 (by omega) (by omega)
 have HW:Hid (pw W H p=if cntP W (px p) (pdx p)=0∨cntP H (py p) (pdy p)=0 then 0 else cntP W (px p) (pdx p)):=rfl
 have HH:Hid (ph W H p=if cntP W (px p) (pdx p)=0∨cntP H (py p) (pdy p)=0 then 0 else cntP H (py p) (pdy p)):=rfl
 have c1:cntP W (px p) (pdx p)≤W:=cntP_le
 have c2:cntP H (py p) (pdy p)≤H:=cntP_le
 generalize cntP W (px p) (pdx p)=A at *
 generalize cntP H (py p) (pdy p)=B at *
 generalize pw W H p=PW at *
 generalize ph W H p=PH at *
 by_cases hz:A=0∨B=0
 ·have e1:=HW.out
  have e2:=HH.out
  rw[if_pos hz] at e1 e2
  subst e1 e2
  rcases Nat.eq_zero_or_pos A with hA | hA
  ·subst hA
   clear hz HW HH
   go_enter Tryd.func59,Tryd.ntmps59
   go_wp2_with fail
   refine (s0 _).mono ?_
   rintro e w1 ⟨rfl,rfl⟩
   go_wp2_with fail
   refine (s1 _).mono ?_
   rintro e w1 ⟨rfl,rfl⟩
   go_wp2_with fail
   refine (s2 _).mono ?_
   rintro e w1 ⟨rfl,rfl⟩
   go_wp2_with fail
   refine (s3 _).mono ?_
   rintro e w1 ⟨rfl,rfl⟩
   go_wp2_with fail
   refine (s4 _).mono ?_
   rintro e w1 ⟨rfl,rfl⟩
   go_wp2_with fail
   refine (s5 _).mono ?_
   rintro e w1 ⟨rfl,rfl⟩
   go_wp2_with fail
   refine bodyPost_ret (v:=.tuple #[.int .i64 _,.int .i64 _]) ?_ rfl ⟨rfl,rfl⟩
   simp[results,Tryd.results59,go_sem]
  ·obtain rfl:B=0:=by omega
   have bz:((A:Int) == 0)=false:=by simp; omega
   clear hz HW HH
   go_enter Tryd.func59,Tryd.ntmps59
   go_wp2_with fail
   refine (s0 _).mono ?_
   rintro e w1 ⟨rfl,rfl⟩
   go_wp2_with fail
   refine (s1 _).mono ?_
   rintro e w1 ⟨rfl,rfl⟩
   go_wp2_with fail
   refine (s2 _).mono ?_
   rintro e w1 ⟨rfl,rfl⟩
   go_wp2_with fail
   refine (s3 _).mono ?_
   rintro e w1 ⟨rfl,rfl⟩
   go_wp2_with fail
   refine (s4 _).mono ?_
   rintro e w1 ⟨rfl,rfl⟩
   go_wp2_with fail
   refine (s5 _).mono ?_
   rintro e w1 ⟨rfl,rfl⟩
   go_wp2_with fail
   refine bodyPost_ret (v:=.tuple #[.int .i64 _,.int .i64 _]) ?_ rfl ⟨rfl,rfl⟩
   simp[results,Tryd.results59,go_sem]
 ·have e1:=HW.out
  have e2:=HH.out
  rw[if_neg hz] at e1 e2
  subst e1 e2
  have bz:((PW:Int) == 0)=false:=by simp; omega
  have bz2:((PH:Int) == 0)=false:=by simp; omega
  clear hz HW HH
  go_enter Tryd.func59,Tryd.ntmps59
  go_wp2_with fail
  refine (s0 _).mono ?_
  rintro e w1 ⟨rfl,rfl⟩
  go_wp2_with fail
  refine (s1 _).mono ?_
  rintro e w1 ⟨rfl,rfl⟩
  go_wp2_with fail
  refine (s2 _).mono ?_
  rintro e w1 ⟨rfl,rfl⟩
  go_wp2_with fail
  refine (s3 _).mono ?_
  rintro e w1 ⟨rfl,rfl⟩
  go_wp2_with fail
  refine (s4 _).mono ?_
  rintro e w1 ⟨rfl,rfl⟩
  go_wp2_with fail
  refine (s5 _).mono ?_
  rintro e w1 ⟨rfl,rfl⟩
  go_wp2_with fail
  refine bodyPost_ret (v:=.tuple #[.int .i64 _,.int .i64 _]) ?_ rfl ⟨rfl,rfl⟩
  simp[results,Tryd.results59,go_sem]
end
section
open Go.RowKit Go.Joins
theorem info_made:(Tryd.prog.info? 3).map (fun i=>(i.zero,i.size,i.bytes))=some (some (.int .i64 0),1,8):=by kernel_rfl
end
end Go.Proofs.YtcbbcadfolgioaaDoor
