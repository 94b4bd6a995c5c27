/-
  Texts of the proof, put together.
-/
import Derived.Test.YtkpbfmdnjnohlaaGreatTk20
namespace Go.Proofs.YtkpbfmdnjnohlaaGreat
section
open Go.RowKit
theorem ret_i {k:IntKind} {a b:Int} (h:a=b):Ending.returned (.int k a)=.returned (.int k b):=by rw [h]
end
section
open Go.RowKit Go.Joins OutMath
set_option maxHeartbeats 400000 in
theorem pow_any (n:Nat) (w:World) (h:n≤61):
  Calls Tryz.prog 29 #[.int .i64 n] w fun e w'=>e=.returned (.int .i64 (p2 n))∧w'=w:=by
 go_enter Tryz.func29,Tryz.ntmps29
 go_wp2
 go_loop [3,4] (fun x i=>∃ j:Nat,j≤n∧i=.int .i64 j∧x=.int .i64 (p2 j)) (fun _ i=>n - (intOf i).toNat)
 case atStart=>exact⟨0,Nat.zero_le _,rfl,by rw [p2_zero]⟩
 case round=>
  obtain⟨j,hj,rfl,rfl⟩:=hrel
  have hp:=p2_pos j
  have hq:=p2_61 (n:=j) (by omega)
  by_cases hlt:j < n
  ·go_wp2
   go_round
   case rel=>exact⟨j+1,by omega,by go_num,by rw [p2_succ]⟩
   case measure=>simp [intOf]; omega
  ·go_wp2
   go_ret
   exact⟨ret_i (by rw [show j=n by omega]),rfl⟩
end
section
open Go.RowKit Go.Joins OutMath RastMath
set_option maxRecDepth 100000 in
set_option maxHeartbeats 3200000 in
theorem specRaster (x0 x1 x2 x3:Int) (a:Option Addr) (n cap:Nat) (f:Nat→Int) (w:World) (hC:Came w a n f) (hn:n≤1048576):
  Calls Tryz.prog 92 #[.agg #[.int .i64 x0,.int .i64 x1,.int .i64 x2,.int .i64 x3,.slice a n cap]] w (RasPost x0 x1 x2 x3 n f w):=by
 have hs0:=specSide x0
 have hs1:=specSide x1
 have hd:=specDepthOk x2 x3
 have hc:=specChannels x2
 have HC:=hid_of hC
 have HB:=hid_of (bstart w (.cells #[.int .i64 x0,.int .i64 x1,.int .i64 x2,.int .i64 x3,.slice a n cap] 34))
 clear hC
 by_cases h0:SideR x0
 ·rw[decide_eq_true h0] at hs0
  by_cases h1:SideR x1
  ·rw[decide_eq_true h1] at hs1
   by_cases h2:DepthR x2 x3
   ·rw[decide_eq_true h2] at hd
    have hcr:=chan_range x2
    obtain⟨N,hN⟩:∃ N,N=chan x2:=⟨_,rfl⟩
    rw[← hN] at hc hcr
    have m1:0≤x0 * x1∧x0 * x1≤576:=⟨Int.mul_nonneg (by have:=h0.1; omega) (by have:=h1.1; omega),by
     have:=Int.mul_le_mul h0.2 h1.2 (by have:=h1.1; omega) (by omega)
     omega⟩
    have m2:0≤x0 * x1 * N∧x0 * x1 * N≤2304:=⟨Int.mul_nonneg m1.1 hcr.1,by
     have:=Int.mul_le_mul m1.2 hcr.2 hcr.1 (by omega)
     omega⟩
    obtain⟨p,hp⟩:∃ p,p=x0 * x1:=⟨_,rfl⟩
    have rp:=hp.symm
    rw[← hp] at m1 m2
    obtain⟨q,hq⟩:∃ q,q=p * N:=⟨_,rfl⟩
    have rq:=hq.symm
    rw[← hq] at m2
    have w1:IntKind.i64.wrap p=p:=by rw [IntKind.wrap_i64]; omega
    have w2:IntKind.i64.wrap q=q:=by rw [IntKind.wrap_i64]; omega
    by_cases h3:(n:Int)=q
    ·have e1:((n:Int) == q)=true:=by simpa using h3
     have e2:((n:Int) != q)=false:=by simpa using h3
     have HR:Hid (RasR x0 x1 x2 x3 n f↔Fit12 f n x3.toNat):=⟨fun h=>h.2.2.2.2,fun h=>⟨h0,h1,h2,by rw [← hN,rp,rq]; exact h3,h⟩⟩
     have h5:=five_range (depth_five h2)
     obtain⟨d,rfl⟩:=Int.eq_ofNat_of_zero_le (show 0≤x3 by omega)
     rw[Int.toNat_natCast] at HR
     have hpd:=fun W=>pow_any d W (by omega)
     have hpp:=p2_pos d
     have hp16:p2 d≤65536:=by
      have:=p2_le (show d≤16 by omega)
      rw[show p2 16=65536 by decide +kernel] at this
      exact this
     obtain⟨P,hP⟩:∃ P,P=p2 d:=⟨_,rfl⟩
     rw[← hP] at hpd hpp hp16
     have HP:=hid_of hP
     have wp:IntKind.i64.wrap (P - 1)=P - 1:=by rw [IntKind.wrap_i64]; omega
     have H3:=hid_of h3
     clear h0 h1 h2 hN hp hq h3 hP
     go_enter Tryz.func92,Tryz.ntmps92
     go_wp2_with fail
     go_quiet ((first | (go_at_call 113; first | exact Calls.quiet_of_same (hs0 _) | exact Calls.quiet_of_same (hs1 _)) | (go_at_call 114; exact Calls.quiet_of_same (hd _)) | (go_at_call 28; exact Calls.quiet_of_same (hc _))))
     go_wp2_with fail
     have HX:Hid (((w.alloc (.cells #[.int .i64 x0,.int .i64 x1,.int .i64 x2,.int .i64 (d:Int),.slice a n cap] 34)).drewN nq).heap[w.heap.size]?=some (.cells #[.int .i64 x0,.int .i64 x1,.int .i64 x2,.int .i64 (d:Int),.slice a n cap] 34 (0,0))):=heap_alloc_new w _
     have HW:Hid (Below w.heap.size w ((w.alloc (.cells #[.int .i64 x0,.int .i64 x1,.int .i64 x2,.int .i64 (d:Int),.slice a n cap] 34)).drewN nq)):=bdraws HB.out _
     generalize (w.alloc (.cells #[.int .i64 x0,.int .i64 x1,.int .i64 x2,.int .i64 (d:Int),.slice a n cap] 34)).drewN nq=W1 at HX HW ⊢
     clear HB hs0 hs1 hd hc e1 e2 rp rq w1 w2
     go_loopw [3] (fun i w'=>∃ j:Nat,j≤n∧i=.int .i64 j∧Hid (Fit12 f j d∧Below W1.heap.size W1 w')) (fun i _=>n - (intOf i).toNat)
     case atStart=>exact⟨0,Nat.zero_le _,rfl,fun i hi=>absurd hi (Nat.not_lt_zero i),Below.refl _ _⟩
     case round=>
      obtain⟨j,hj,rfl,hS⟩:=hrel
      have bx:=(hS.out.2.block _ (block_lt HX.out)).trans HX.out
      have k3:wr.cell? ⟨w.heap.size,3,none⟩=some (.int .i64 (d:Int)):=(cell_of_block bx 3).trans rfl
      have k4:wr.cell? ⟨w.heap.size,4,none⟩=some (.slice a n cap):=(cell_of_block bx 4).trans rfl
      have lx:=block_lt bx
      clear bx
      by_cases hlt:j < n
      ·have dl:decide ((j:Int) < (n:Int))=true:=decide_eq_true (by omega)
       rcases HC.out.called HW.out with q0 | ⟨g,off,rfl,hg,hcc⟩
       ·omega
       have c0:wr.cell? ⟨g,off+j,none⟩=some (.int .i64 (f j)):=(hS.out.2.cell (p:=⟨g,off+j,none⟩) hg).trans (hcc j hlt)
       have l0:g < wr.heap.size:=Nat.lt_of_lt_of_le hg hS.out.2.size
       clear hcc
       obtain⟨x,hx⟩:∃ x,x=f j:=⟨_,rfl⟩
       rw[← hx] at c0
       have HX2:=hid_of hx
       clear hx
       by_cases hin:0≤x∧x≤P - 1
       ·have hiy:=fun W=>in_yes x 0 (P - 1) W hin.1 hin.2
        have HN:Hid (Fit12 f (j+1) d):=hS.out.1.next (by rw [← HX2.out]; exact hin.1) (by rw [← HX2.out,← HP.out]; omega)
        have HBw:=hid_of hS.out.2
        clear hin hS
        go_wp2_with fail
        go_quiet ((first | (go_at_call 29; exact Calls.quiet_of_same (hpd _)) | (go_at_call 115; exact Calls.quiet_of_same (hiy _))))
        go_wp2_with fail
        go_roundw
        case rel=>exact⟨j+1,by omega,by go_num,HN.out,bdraws HBw.out _⟩
        case measure=>simp [intOf]; omega
       ·have hiy:=fun W=>in_no x 0 (P - 1) W hin
        have HN:Hid (¬ RasR x0 x1 x2 (d:Int) n f):=fun h=>hin (by have:=HR.out.mp h j hlt; rw [← HX2.out,← HP.out] at this; omega)
        have HBw:=hid_of (bnext HW.out hS.out.2)
        clear hin hS
        go_wp2_with fail
        go_quiet ((first | (go_at_call 29; exact Calls.quiet_of_same (hpd _)) | (go_at_call 115; exact Calls.quiet_of_same (hiy _))))
        go_wp2_with fail
        go_ret
        exact ras_no HN.out (bdraws HBw.out _)
      ·obtain rfl:j=n:=by omega
       have dl:decide ((j:Int) < (j:Int))=false:=decide_eq_false (by omega)
       have HY:Hid (RasR x0 x1 x2 (d:Int) j f):=HR.out.mpr hS.out.1
       have HBw:=hid_of (bnext HW.out hS.out.2)
       clear hS
       go_wp2_with fail
       go_ret
       exact ras_yes HY.out HBw.out
    ·have e1:((n:Int) == q)=false:=by simpa using h3
     have e2:((n:Int) != q)=true:=by simpa using h3
     have HR:Hid (¬ RasR x0 x1 x2 x3 n f):=fun h=>h3 (by have:=h.2.2.2.1; rw [← hN,rp,rq] at this; exact this)
     clear h0 h1 h2 hN hp hq h3
     go_enter Tryz.func92,Tryz.ntmps92
     go_wp2_with fail
     go_quiet ((first | (go_at_call 113; first | exact Calls.quiet_of_same (hs0 _) | exact Calls.quiet_of_same (hs1 _)) | (go_at_call 114; exact Calls.quiet_of_same (hd _)) | (go_at_call 28; exact Calls.quiet_of_same (hc _))))
     go_wp2_with fail
     go_ret
     exact ras_no HR.out (bdraws HB.out _)
   ·rw[decide_eq_false h2] at hd
    have HR:Hid (¬ RasR x0 x1 x2 x3 n f):=fun h=>h2 h.2.2.1
    clear h0 h1 h2
    go_enter Tryz.func92,Tryz.ntmps92
    go_wp2_with fail
    go_quiet ((first | (go_at_call 113; first | exact Calls.quiet_of_same (hs0 _) | exact Calls.quiet_of_same (hs1 _)) | (go_at_call 114; exact Calls.quiet_of_same (hd _)) | (go_at_call 28; exact Calls.quiet_of_same (hc _))))
    go_wp2_with fail
    go_ret
    exact ras_no HR.out (bdraws HB.out _)
  ·rw[decide_eq_false h1] at hs1
   have HR:Hid (¬ RasR x0 x1 x2 x3 n f):=fun h=>h1 h.2.1
   clear h0 h1
   go_enter Tryz.func92,Tryz.ntmps92
   go_wp2_with fail
   go_quiet ((first | (go_at_call 113; first | exact Calls.quiet_of_same (hs0 _) | exact Calls.quiet_of_same (hs1 _)) | (go_at_call 114; exact Calls.quiet_of_same (hd _)) | (go_at_call 28; exact Calls.quiet_of_same (hc _))))
   go_wp2_with fail
   go_ret
   exact ras_no HR.out (bdraws HB.out _)
 ·rw[decide_eq_false h0] at hs0
  have HR:Hid (¬ RasR x0 x1 x2 x3 n f):=fun h=>h0 h.1
  clear h0
  go_enter Tryz.func92,Tryz.ntmps92
  go_wp2_with fail
  go_quiet ((first | (go_at_call 113; first | exact Calls.quiet_of_same (hs0 _) | exact Calls.quiet_of_same (hs1 _)) | (go_at_call 114; exact Calls.quiet_of_same (hd _)) | (go_at_call 28; exact Calls.quiet_of_same (hc _))))
  go_wp2_with fail
  go_ret
  exact ras_no HR.out (bdraws HB.out _)
end
section
open Go.RowKit Go.Joins
def Flag (p:Prop) (w:World) (e:Ending) (w':World):Prop:=∃ b,e=.returned (.bool b)∧(b=true↔p)∧Below w.heap.size w w'
theorem Flag.congr {p q:Prop} {w:World} {e:Ending} {w':World} (h:Flag p w e w') (hpq:p↔q):Flag q w e w':=by
 obtain⟨b,h1,h2,h3⟩:=h
 exact⟨b,h1,h2.trans hpq,h3⟩
end
end Go.Proofs.YtkpbfmdnjnohlaaGreat
