/-
  Texts of the proof, put together.
-/
import Derived.Test.YtcbbcadfolgioaaDoorPe04
namespace Go.Proofs.YtcbbcadfolgioaaDoor
section
namespace ScanMath
open Go.RowKit OutMath TakeMath RastMath FiltMath PassMath
def cntL (lace:Bool):Nat:=if lace then 7 else 1
def cwL (lace:Bool) (W H p:Nat):Nat:=if lace then pw W H p else W
def chL (lace:Bool) (W H p:Nat):Nat:=if lace then ph W H p else H
def fL (lace:Bool) (W H N:Nat) (f:Nat→Int) (p:Nat):Nat→Int:=if lace then passF W H N f p else f
theorem pw_pos {W H p:Nat} (h:1≤ph W H p):1≤pw W H p:=by
 unfold ph at h
 unfold pw
 split at h
 ·omega
 ·rename_i e
  rw[if_neg e]
  omega
section
variable {lace:Bool} {W H N D p:Nat}
theorem cwL_le (lace:Bool) (W H p:Nat):cwL lace W H p≤W:=by
 unfold cwL
 split
 ·exact pw_le W H p
 ·exact Nat.le_refl _
theorem chL_le (lace:Bool) (W H p:Nat):chL lace W H p≤H:=by
 unfold chL
 split
 ·exact ph_le W H p
 ·exact Nat.le_refl _
theorem cwL_pos (hW:1≤W) (h:1≤chL lace W H p):1≤cwL lace W H p:=by
 unfold cwL
 unfold chL at h
 split
 ·rename_i e
  rw[if_pos e] at h
  exact pw_pos h
 ·exact hW
theorem cntL_le (lace:Bool):cntL lace≤7:=by
 unfold cntL
 split <;> omega
theorem fL_fit {f:Nat→Int} (hN:1≤N) (hp:p < cntL lace) (h:Fit12 f (W * H * N) D):Fit12 (fL lace W H N f p) (cwL lace W H p * chL lace W H p * N) D:=by
 unfold cntL at hp
 unfold fL cwL chL
 cases lace with
 | false=>simpa using h
 | true=>
  intro i hi
  exact h _ (pos_lt hN (by simpa using hp) (by simpa using hi))
def partR (lace:Bool) (W H:Nat) (c d:Int) (N:Nat) (f:Nat→Int) (p:Nat):Ras:=⟨(cwL lace W H p:Int),(chL lace W H p:Int),c,d,cwL lace W H p * chL lace W H p * N,fL lace W H N f p⟩
theorem partR_lace (W H:Nat) (c d:Int) (N:Nat) (f:Nat→Int):partR true W H c d N f=passR W H c d N f:=rfl
def scanL (lace:Bool) (way:Int) (W H N D:Nat) (f:Nat→Int):Nat→List Int:=fun p=>linesL way (fL lace W H N f p) (cwL lace W H p * N) D (unitN N D) (chL lace W H p)
def scanT (lace:Bool) (way:Int) (W H N D:Nat) (f:Nat→Int):ByteArray:=strOfNums (partsL (scanL lace way W H N D f) (cntL lace))
def scanN (lace:Bool) (W H N D:Nat):Nat:=offP (cwL lace W H) (chL lace W H) N D (cntL lace)
theorem rb_small {s D:Nat} (hs:s≤96) (hD:D≤16):rb s D≤200:=by
 have:=Nat.mul_le_mul hs hD
 unfold rb
 omega
theorem part_s (hW:W≤24) (hN:N≤4):cwL lace W H p * N≤96:=Nat.mul_le_mul (Nat.le_trans (cwL_le _ _ _ _) hW) hN
theorem scanL_length {way:Int} {f:Nat→Int} (hway:0≤way∧way≤5) (hW:W≤24) (hN:N≤4) (hD:D≤16) (p:Nat):(scanL lace way W H N D f p).length=chL lace W H p * (rb (cwL lace W H p * N) D+1):=
 linesL_length hway (unitN_range hN hD) (rb_small (part_s hW hN) hD) _
end
section
variable {lace:Bool} {W H N D:Nat} {c d:Int}
end
end ScanMath
end
section
open Go.RowKit RastMath PassMath ScanMath
def ScanOk (r:Ras) (way:Int):Prop:=RasOk r∧0≤way∧way≤5
def scanV (r:Ras) (lace:Bool) (way:Int):ByteArray:=scanT lace way r.x0.toNat r.x1.toNat (chan r.x2).toNat r.x3.toNat r.f
def ScanOfAnswer:Prop:=∀ (r:Ras) (a:Option Addr) (cap:Nat) (lace:Bool) (way:Int) (w:World),Came w a r.n r.f→r.n≤1048576→r.n≤cap→cap≤maxLen→(Lit.int .i64 way).wf=true→GridG w→
 (ScanOk r way→Calls Tryd.prog 15 #[rasA r a cap,.bool lace,.int .i64 way] w fun e w'=>e=.returned (.tuple #[.string (scanV r lace way),.bool true])∧Below w.heap.size w w')∧
 (¬ ScanOk r way→Calls Tryd.prog 15 #[rasA r a cap,.bool lace,.int .i64 way] w fun e w'=>e=.returned (.tuple #[.string ⟨#[]⟩,.bool false])∧Below w.heap.size w w')
end
section
open Go.RowKit
theorem in_yes (x a b:Int) (w:World) (h1:a≤x) (h2:x≤b):
  Calls Tryd.prog 62 #[.int .i64 x,.int .i64 a,.int .i64 b] w fun e w'=>e=.returned (.bool true)∧w'=w:=by
 go_enter Tryd.func62,Tryd.ntmps62
 go_wp2
 go_ret
 exact⟨rfl,rfl⟩
theorem in_no (x a b:Int) (w:World) (h:¬ (a≤x∧x≤b)):
  Calls Tryd.prog 62 #[.int .i64 x,.int .i64 a,.int .i64 b] w fun e w'=>e=.returned (.bool false)∧w'=w:=by
 by_cases h1:a≤x
 ·have h2:¬ x≤b:=fun k=>h ⟨h1,k⟩
  clear h
  go_enter Tryd.func62,Tryd.ntmps62
  go_wp2
  go_ret
  exact⟨rfl,rfl⟩
 ·clear h
  go_enter Tryd.func62,Tryd.ntmps62
  go_wp2
  go_ret
  exact⟨rfl,rfl⟩
end
section
open Go.RowKit
theorem ret_i {k:IntKind} {a b:Int} (h:a=b):Ending.returned (.int k a)=.returned (.int k b):=by rw [h]
end
section
open Go.RowKit Go.Joins OutMath
set_option maxHeartbeats 400000 in
theorem pow_any (n:Nat) (w:World) (h:n≤61):
  Calls Tryd.prog 75 #[.int .i64 n] w fun e w'=>e=.returned (.int .i64 (p2 n))∧w'=w:=by
 go_enter Tryd.func75,Tryd.ntmps75
 go_wp2
 go_loop [3,4] (fun x i=>∃ j:Nat,j≤n∧i=.int .i64 j∧x=.int .i64 (p2 j)) (fun _ i=>n - (intOf i).toNat)
 case atStart=>exact⟨0,Nat.zero_le _,rfl,by rw [p2_zero]⟩
 case round=>
  obtain⟨j,hj,rfl,rfl⟩:=hrel
  have hp:=p2_pos j
  have hq:=p2_61 (n:=j) (by omega)
  by_cases hlt:j < n
  ·go_wp2
   go_round
   case rel=>exact⟨j+1,by omega,by go_num,by rw [p2_succ]⟩
   case measure=>simp [intOf]; omega
  ·go_wp2
   go_ret
   exact⟨ret_i (by rw [show j=n by omega]),rfl⟩
end
section
open Go.RowKit Go.Joins RastMath
theorem beq_no {a b:Int} (h:¬ a=b):(a == b)=false:=by simpa using h
theorem specChannels (c:Int) (w:World):Calls Tryd.prog 58 #[.int .i64 c] w fun e w'=>e=.returned (.int .i64 (chan c))∧w'=w:=by
 unfold chan
 by_cases h0:c=0
 ·subst h0
  go_enter Tryd.func58,Tryd.ntmps58
  go_wp2_with fail
  go_ret
  exact⟨rfl,rfl⟩
 by_cases h3:c=3
 ·subst h3
  go_enter Tryd.func58,Tryd.ntmps58
  go_wp2_with fail
  go_ret
  exact⟨rfl,rfl⟩
 by_cases h2:c=2
 ·subst h2
  go_enter Tryd.func58,Tryd.ntmps58
  go_wp2_with fail
  go_ret
  exact⟨rfl,rfl⟩
 by_cases h4:c=4
 ·subst h4
  go_enter Tryd.func58,Tryd.ntmps58
  go_wp2_with fail
  go_ret
  exact⟨rfl,rfl⟩
 by_cases h6:c=6
 ·subst h6
  go_enter Tryd.func58,Tryd.ntmps58
  go_wp2_with fail
  go_ret
  exact⟨rfl,rfl⟩
 rw[if_neg (by omega),if_neg h2,if_neg h4,if_neg h6]
 have b0:=beq_no h0
 have b3:=beq_no h3
 have b2:=beq_no h2
 have b4:=beq_no h4
 have b6:=beq_no h6
 go_enter Tryd.func58,Tryd.ntmps58
 go_wp2_with fail
 go_ret
 exact⟨rfl,rfl⟩
set_option maxHeartbeats 1600000 in
theorem specDepthOk (c d:Int) (w:World):Calls Tryd.prog 57 #[.int .i64 c,.int .i64 d] w fun e w'=>e=.returned (.bool (decide (DepthR c d)))∧w'=w:=by
 have hd:d=1∨d=2∨d=4∨d=8∨d=16∨¬ Five d:=by
  unfold Five
  omega
 have hc:c=0∨c=3∨c=2∨c=4∨c=6∨(¬ c=0∧¬ c=3∧¬ c=2∧¬ c=4∧¬ c=6):=by omega
 rcases hc with rfl | rfl | rfl | rfl | rfl | ⟨h0,h3,h2,h4,h6⟩
 all_goals
  rcases hd with rfl | rfl | rfl | rfl | rfl | hd
 all_goals
  first
   | (rw [decide_eq_true (show DepthR _ _ by unfold DepthR Five; omega)])
   | (rw [decide_eq_false (show ¬ DepthR _ _ by unfold DepthR Five; omega)])
   | (rw [decide_eq_false (show ¬ DepthR _ _ from fun h=>hd (depth_five h))])
  try (have e0:=beq_no h0; have e3:=beq_no h3; have e2:=beq_no h2; have e4:=beq_no h4; have e6:=beq_no h6; clear h0 h3 h2 h4 h6)
  try (unfold Five at hd; have g1:=beq_no (a:=d) (b:=1) (by omega); have g2:=beq_no (a:=d) (b:=2) (by omega); have g4:=beq_no (a:=d) (b:=4) (by omega); have g8:=beq_no (a:=d) (b:=8) (by omega); have g16:=beq_no (a:=d) (b:=16) (by omega); clear hd)
  go_enter Tryd.func57,Tryd.ntmps57
  go_wp2_with fail
  go_ret
  exact⟨rfl,rfl⟩
theorem specSide (n:Int) (w:World):Calls Tryd.prog 56 #[.int .i64 n] w fun e w'=>e=.returned (.bool (decide (SideR n)))∧w'=w:=by
 by_cases h:SideR n
 ·rw[decide_eq_true h]
  go_enter Tryd.func56,Tryd.ntmps56
  go_wp2_with fail
  refine (in_yes n 1 24 _ h.1 h.2).mono ?_
  rintro e w1 ⟨rfl,rfl⟩
  go_wp2_with fail
  go_ret
  exact⟨rfl,rfl⟩
 ·rw[decide_eq_false h]
  go_enter Tryd.func56,Tryd.ntmps56
  go_wp2_with fail
  refine (in_no n 1 24 _ h).mono ?_
  rintro e w1 ⟨rfl,rfl⟩
  go_wp2_with fail
  go_ret
  exact⟨rfl,rfl⟩
theorem specDepth5 (d:Int) (w:World):Calls Tryd.prog 97 #[.int .i64 d] w fun e w'=>e=.returned (.bool (decide (Five d)))∧w'=w:=by
 have hh:decide (DepthR 0 d)=decide (Five d):=by
  rw[decide_eq_decide]
  exact⟨depth_five,fun h=>.inl ⟨rfl,h⟩⟩
 have h:=specDepthOk 0 d
 rw[hh] at h
 generalize decide (Five d)=b at h ⊢
 go_enter Tryd.func97,Tryd.ntmps97
 go_wp2_with fail
 refine (h _).mono ?_
 rintro e w1 ⟨rfl,rfl⟩
 go_wp2_with fail
 go_ret
 exact⟨rfl,rfl⟩
end
section
open Go.RowKit Go.Joins OutMath RastMath
set_option maxRecDepth 100000 in
set_option maxHeartbeats 3200000 in
theorem specRaster (x0 x1 x2 x3:Int) (a:Option Addr) (n cap:Nat) (f:Nat→Int) (w:World) (hC:Came w a n f) (hn:n≤1048576):
  Calls Tryd.prog 50 #[.agg #[.int .i64 x0,.int .i64 x1,.int .i64 x2,.int .i64 x3,.slice a n cap]] w (RasPost x0 x1 x2 x3 n f w):=by
 have hs0:=specSide x0
 have hs1:=specSide x1
 have hd:=specDepthOk x2 x3
 have hc:=specChannels x2
 have HC:=hid_of hC
 have HB:=hid_of (bstart w (.cells #[.int .i64 x0,.int .i64 x1,.int .i64 x2,.int .i64 x3,.slice a n cap] 26))
 clear hC
 by_cases h0:SideR x0
 ·rw[decide_eq_true h0] at hs0
  by_cases h1:SideR x1
  ·rw[decide_eq_true h1] at hs1
   by_cases h2:DepthR x2 x3
   ·rw[decide_eq_true h2] at hd
    have hcr:=chan_range x2
    obtain⟨N,hN⟩:∃ N,N=chan x2:=⟨_,rfl⟩
    rw[← hN] at hc hcr
    have m1:0≤x0 * x1∧x0 * x1≤576:=⟨Int.mul_nonneg (by have:=h0.1; omega) (by have:=h1.1; omega),by
     have:=Int.mul_le_mul h0.2 h1.2 (by have:=h1.1; omega) (by omega)
     omega⟩
    have m2:0≤x0 * x1 * N∧x0 * x1 * N≤2304:=⟨Int.mul_nonneg m1.1 hcr.1,by
     have:=Int.mul_le_mul m1.2 hcr.2 hcr.1 (by omega)
     omega⟩
    obtain⟨p,hp⟩:∃ p,p=x0 * x1:=⟨_,rfl⟩
    have rp:=hp.symm
    rw[← hp] at m1 m2
    obtain⟨q,hq⟩:∃ q,q=p * N:=⟨_,rfl⟩
    have rq:=hq.symm
    rw[← hq] at m2
    have w1:IntKind.i64.wrap p=p:=by rw [IntKind.wrap_i64]; omega
    have w2:IntKind.i64.wrap q=q:=by rw [IntKind.wrap_i64]; omega
    by_cases h3:(n:Int)=q
    ·have e1:((n:Int) == q)=true:=by simpa using h3
     have e2:((n:Int) != q)=false:=by simpa using h3
     have HR:Hid (RasR x0 x1 x2 x3 n f↔Fit12 f n x3.toNat):=⟨fun h=>h.2.2.2.2,fun h=>⟨h0,h1,h2,by rw [← hN,rp,rq]; exact h3,h⟩⟩
     have h5:=five_range (depth_five h2)
     obtain⟨d,rfl⟩:=Int.eq_ofNat_of_zero_le (show 0≤x3 by omega)
     rw[Int.toNat_natCast] at HR
     have hpd:=fun W=>pow_any d W (by omega)
     have hpp:=p2_pos d
     have hp16:p2 d≤65536:=by
      have:=p2_le (show d≤16 by omega)
      rw[show p2 16=65536 by decide +kernel] at this
      exact this
     obtain⟨P,hP⟩:∃ P,P=p2 d:=⟨_,rfl⟩
     rw[← hP] at hpd hpp hp16
     have HP:=hid_of hP
     have wp:IntKind.i64.wrap (P - 1)=P - 1:=by rw [IntKind.wrap_i64]; omega
     have H3:=hid_of h3
     clear h0 h1 h2 hN hp hq h3 hP
     go_enter Tryd.func50,Tryd.ntmps50
     go_wp2_with fail
     go_quiet ((first | (go_at_call 56; first | exact Calls.quiet_of_same (hs0 _) | exact Calls.quiet_of_same (hs1 _)) | (go_at_call 57; exact Calls.quiet_of_same (hd _)) | (go_at_call 58; exact Calls.quiet_of_same (hc _))))
     go_wp2_with fail
     have HX:Hid (((w.alloc (.cells #[.int .i64 x0,.int .i64 x1,.int .i64 x2,.int .i64 (d:Int),.slice a n cap] 26)).drewN nq).heap[w.heap.size]?=some (.cells #[.int .i64 x0,.int .i64 x1,.int .i64 x2,.int .i64 (d:Int),.slice a n cap] 26 (0,0))):=heap_alloc_new w _
     have HW:Hid (Below w.heap.size w ((w.alloc (.cells #[.int .i64 x0,.int .i64 x1,.int .i64 x2,.int .i64 (d:Int),.slice a n cap] 26)).drewN nq)):=bdraws HB.out _
     generalize (w.alloc (.cells #[.int .i64 x0,.int .i64 x1,.int .i64 x2,.int .i64 (d:Int),.slice a n cap] 26)).drewN nq=W1 at HX HW ⊢
     clear HB hs0 hs1 hd hc e1 e2 rp rq w1 w2
     go_loopw [3] (fun i w'=>∃ j:Nat,j≤n∧i=.int .i64 j∧Hid (Fit12 f j d∧Below W1.heap.size W1 w')) (fun i _=>n - (intOf i).toNat)
     case atStart=>exact⟨0,Nat.zero_le _,rfl,fun i hi=>absurd hi (Nat.not_lt_zero i),Below.refl _ _⟩
     case round=>
      obtain⟨j,hj,rfl,hS⟩:=hrel
      have bx:=(hS.out.2.block _ (block_lt HX.out)).trans HX.out
      have k3:wr.cell? ⟨w.heap.size,3,none⟩=some (.int .i64 (d:Int)):=(cell_of_block bx 3).trans rfl
      have k4:wr.cell? ⟨w.heap.size,4,none⟩=some (.slice a n cap):=(cell_of_block bx 4).trans rfl
      have lx:=block_lt bx
      clear bx
      by_cases hlt:j < n
      ·have dl:decide ((j:Int) < (n:Int))=true:=decide_eq_true (by omega)
       rcases HC.out.called HW.out with q0 | ⟨g,off,rfl,hg,hcc⟩
       ·omega
       have c0:wr.cell? ⟨g,off+j,none⟩=some (.int .i64 (f j)):=(hS.out.2.cell (p:=⟨g,off+j,none⟩) hg).trans (hcc j hlt)
       have l0:g < wr.heap.size:=Nat.lt_of_lt_of_le hg hS.out.2.size
       clear hcc
       obtain⟨x,hx⟩:∃ x,x=f j:=⟨_,rfl⟩
       rw[← hx] at c0
       have HX2:=hid_of hx
       clear hx
       by_cases hin:0≤x∧x≤P - 1
       ·have hiy:=fun W=>in_yes x 0 (P - 1) W hin.1 hin.2
        have HN:Hid (Fit12 f (j+1) d):=hS.out.1.next (by rw [← HX2.out]; exact hin.1) (by rw [← HX2.out,← HP.out]; omega)
        have HBw:=hid_of hS.out.2
        clear hin hS
        go_wp2_with fail
        go_quiet ((first | (go_at_call 75; exact Calls.quiet_of_same (hpd _)) | (go_at_call 62; exact Calls.quiet_of_same (hiy _))))
        go_wp2_with fail
        go_roundw
        case rel=>exact⟨j+1,by omega,by go_num,HN.out,bdraws HBw.out _⟩
        case measure=>simp [intOf]; omega
       ·have hiy:=fun W=>in_no x 0 (P - 1) W hin
        have HN:Hid (¬ RasR x0 x1 x2 (d:Int) n f):=fun h=>hin (by have:=HR.out.mp h j hlt; rw [← HX2.out,← HP.out] at this; omega)
        have HBw:=hid_of (bnext HW.out hS.out.2)
        clear hin hS
        go_wp2_with fail
        go_quiet ((first | (go_at_call 75; exact Calls.quiet_of_same (hpd _)) | (go_at_call 62; exact Calls.quiet_of_same (hiy _))))
        go_wp2_with fail
        go_ret
        exact ras_no HN.out (bdraws HBw.out _)
      ·obtain rfl:j=n:=by omega
       have dl:decide ((j:Int) < (j:Int))=false:=decide_eq_false (by omega)
       have HY:Hid (RasR x0 x1 x2 (d:Int) j f):=HR.out.mpr hS.out.1
       have HBw:=hid_of (bnext HW.out hS.out.2)
       clear hS
       go_wp2_with fail
       go_ret
       exact ras_yes HY.out HBw.out
    ·have e1:((n:Int) == q)=false:=by simpa using h3
     have e2:((n:Int) != q)=true:=by simpa using h3
     have HR:Hid (¬ RasR x0 x1 x2 x3 n f):=fun h=>h3 (by have:=h.2.2.2.1; rw [← hN,rp,rq] at this; exact this)
     clear h0 h1 h2 hN hp hq h3
     go_enter Tryd.func50,Tryd.ntmps50
     go_wp2_with fail
     go_quiet ((first | (go_at_call 56; first | exact Calls.quiet_of_same (hs0 _) | exact Calls.quiet_of_same (hs1 _)) | (go_at_call 57; exact Calls.quiet_of_same (hd _)) | (go_at_call 58; exact Calls.quiet_of_same (hc _))))
     go_wp2_with fail
     go_ret
     exact ras_no HR.out (bdraws HB.out _)
   ·rw[decide_eq_false h2] at hd
    have HR:Hid (¬ RasR x0 x1 x2 x3 n f):=fun h=>h2 h.2.2.1
    clear h0 h1 h2
    go_enter Tryd.func50,Tryd.ntmps50
    go_wp2_with fail
    go_quiet ((first | (go_at_call 56; first | exact Calls.quiet_of_same (hs0 _) | exact Calls.quiet_of_same (hs1 _)) | (go_at_call 57; exact Calls.quiet_of_same (hd _)) | (go_at_call 58; exact Calls.quiet_of_same (hc _))))
    go_wp2_with fail
    go_ret
    exact ras_no HR.out (bdraws HB.out _)
  ·rw[decide_eq_false h1] at hs1
   have HR:Hid (¬ RasR x0 x1 x2 x3 n f):=fun h=>h1 h.2.1
   clear h0 h1
   go_enter Tryd.func50,Tryd.ntmps50
   go_wp2_with fail
   go_quiet ((first | (go_at_call 56; first | exact Calls.quiet_of_same (hs0 _) | exact Calls.quiet_of_same (hs1 _)) | (go_at_call 57; exact Calls.quiet_of_same (hd _)) | (go_at_call 58; exact Calls.quiet_of_same (hc _))))
   go_wp2_with fail
   go_ret
   exact ras_no HR.out (bdraws HB.out _)
 ·rw[decide_eq_false h0] at hs0
  have HR:Hid (¬ RasR x0 x1 x2 x3 n f):=fun h=>h0 h.1
  clear h0
  go_enter Tryd.func50,Tryd.ntmps50
  go_wp2_with fail
  go_quiet ((first | (go_at_call 56; first | exact Calls.quiet_of_same (hs0 _) | exact Calls.quiet_of_same (hs1 _)) | (go_at_call 57; exact Calls.quiet_of_same (hd _)) | (go_at_call 58; exact Calls.quiet_of_same (hc _))))
  go_wp2_with fail
  go_ret
  exact ras_no HR.out (bdraws HB.out _)
end
section
open Go.RowKit Go.Joins
theorem info_made:(Tryd.prog.info? 3).map (fun i=>(i.zero,i.size,i.bytes))=some (some (.int .i64 0),1,8):=by kernel_rfl
end
section
namespace PassMath
open RastMath
abbrev PassR (p:Int):Prop:=0≤p∧p≤6
def stepV (f:Nat→Nat) (p:Int):Int:=if PassR p then (f p.toNat:Int) else 0
abbrev SizeR (W H p:Int):Prop:=SideR W∧SideR H∧PassR p
def wideV (W H p:Int):Int:=if SizeR W H p then (pw W.toNat H.toNat p.toNat:Int) else 0
def highV (W H p:Int):Int:=if SizeR W H p then (ph W.toNat H.toNat p.toNat:Int) else 0
theorem wideV_nat {W H p:Nat} (hW:1≤W∧W≤24) (hH:1≤H∧H≤24) (hp:p < 7):wideV W H p=(pw W H p:Int)∧highV W H p=(ph W H p:Int):=by
 have h:SizeR W H p:=⟨⟨by omega,by omega⟩,⟨by omega,by omega⟩,by unfold PassR; omega⟩
 unfold wideV highV
 rw[if_pos h,if_pos h]
 exact⟨rfl,rfl⟩
end PassMath
end
end Go.Proofs.YtcbbcadfolgioaaDoor
