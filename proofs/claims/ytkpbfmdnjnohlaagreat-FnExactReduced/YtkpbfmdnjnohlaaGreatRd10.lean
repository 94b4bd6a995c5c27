/-
  Texts of the proof, put together.
-/
import Derived.Test.YtkpbfmdnjnohlaaGreatRd09
import Derived.Test.YtkpbfmdnjnohlaaGreatRd03
namespace Go.Proofs.YtkpbfmdnjnohlaaGreat
section
open Go.RowKit Go.Joins RastMath HeadMath
set_option maxRecDepth 100000 in
set_option maxHeartbeats 1600000 in
theorem implHeadOk (x y d c:Int) (l:Bool) (w:World):
  Calls Tryz.prog 97 #[.agg #[.int .i64 x,.int .i64 y,.int .i64 d,.int .i64 c,.bool l]] w fun e w'=>e=.returned (.bool (decide (HeadR x y d c)))∧Below w.heap.size w w':=by
 have hs0:=isSide_any x
 have hs1:=isSide_any y
 have hd:=implDepth c d
 have HB:=hid_of (bstart w (.cells #[.int .i64 x,.int .i64 y,.int .i64 d,.int .i64 c,.bool l] 32))
 by_cases h0:SideR x
 ·rw[decide_eq_true h0] at hs0
  by_cases h1:SideR y
  ·rw[decide_eq_true h1] at hs1
   rw[show decide (HeadR x y d c)=decide (DepthR c d) from decide_eq_decide.mpr ⟨fun h=>h.2.2,fun h=>⟨h0,h1,h⟩⟩]
   generalize decide (DepthR c d)=b at hd ⊢
   clear h0 h1
   go_enter Tryz.func97,Tryz.ntmps97
   go_wp2_with fail
   refine (hs0 _).mono ?_
   rintro e w1 ⟨rfl,rfl⟩
   go_wp2_with fail
   refine (hs1 _).mono ?_
   rintro e w1 ⟨rfl,rfl⟩
   go_wp2_with fail
   refine (hd _).mono ?_
   rintro e w1 ⟨rfl,hB1⟩
   have HB1:=hid_of (bnext HB.out hB1)
   clear hB1
   go_wp2_with fail
   go_ret
   exact⟨rfl,HB1.out⟩
  ·rw[decide_eq_false h1] at hs1
   rw[decide_eq_false (fun h:HeadR x y d c=>h1 h.2.1)]
   clear h0 h1
   go_enter Tryz.func97,Tryz.ntmps97
   go_wp2_with fail
   refine (hs0 _).mono ?_
   rintro e w1 ⟨rfl,rfl⟩
   go_wp2_with fail
   refine (hs1 _).mono ?_
   rintro e w1 ⟨rfl,rfl⟩
   go_wp2_with fail
   go_ret
   exact⟨rfl,HB.out⟩
 ·rw[decide_eq_false h0] at hs0
  rw[decide_eq_false (fun h:HeadR x y d c=>h0 h.1)]
  clear h0
  go_enter Tryz.func97,Tryz.ntmps97
  go_wp2_with fail
  refine (hs0 _).mono ?_
  rintro e w1 ⟨rfl,rfl⟩
  go_wp2_with fail
  go_ret
  exact⟨rfl,HB.out⟩
end
section
open Go.RowKit Go.Joins OutMath RastMath
theorem rowSize_any (x0 x1 x2 x3:Int) (a:Option Addr) (n cap:Nat) (s:Int) (w:World) (h0:0≤s) (h1:s≤96) (hs:x0 * chan x2=s):
  Calls Tryz.prog 122 #[.agg #[.int .i64 x0,.int .i64 x1,.int .i64 x2,.int .i64 x3,.slice a n cap]] w fun e w'=>e=.returned (.int .i64 s)∧Below w.heap.size w w':=by
 have hc:=implChannels x2
 generalize chan x2=N at hc hs
 have w1:IntKind.i64.wrap s=s:=by rw [IntKind.wrap_i64]; omega
 have HB:=hid_of (bstart w (.cells #[.int .i64 x0,.int .i64 x1,.int .i64 x2,.int .i64 x3,.slice a n cap] 34))
 go_enter Tryz.func122,Tryz.ntmps122
 go_wp2_with fail
 go_quiet ((go_at_call 39; exact Calls.quiet_of_same (hc _)))
 go_wp2_with fail
 go_ret
 exact⟨rfl,bdraws HB.out _⟩
def RowCut (s y:Nat) (f:Nat→Int) (w:World) (e:Ending) (w':World):Prop:=∃ a',e=.returned (.slice a' s s)∧Came w' a' s (fun i=>f (y * s+i))∧Below w.heap.size w w'
theorem row_any (x0 x1 x2 x3:Int) (a:Option Addr) (n cap s y:Nat) (f:Nat→Int) (w:World) (h0:1≤s) (h1:s≤96) (hs:x0 * chan x2=(s:Int)) (hC:Came w a n f) (hcap:n≤cap) (_hcl:cap≤maxLen) (hy:y≤24) (hin:y * s+s≤n) (hpos:1≤n) (hn:n≤100000):
  Calls Tryz.prog 124 #[.agg #[.int .i64 x0,.int .i64 x1,.int .i64 x2,.int .i64 x3,.slice a n cap],.int .i64 (y:Int)] w (RowCut s y f w):=by
 have hr:=fun W=>rowSize_any x0 x1 x2 x3 a n cap s W (by omega) (by omega) hs
 rcases hC with q0 | ⟨g,off,rfl,hg,hc⟩
 ·omega
 have HC:=hid_of hc
 have hys:y * s≤24 * 96:=Nat.mul_le_mul hy h1
 obtain⟨l,hl⟩:∃ l,l=y * s:=⟨_,rfl⟩
 have HL:=hid_of hl
 have e1:(y:Int) * (s:Int)=(l:Int):=by rw [hl]; simp
 have e2:((y:Int)+1) * (s:Int)=(l:Int)+(s:Int):=by rw [Int.add_mul,e1]; omega
 rw[← hl] at hin hys
 have HX:Hid ((w.alloc (.cells #[.int .i64 x0,.int .i64 x1,.int .i64 x2,.int .i64 x3,.slice (some ⟨g,off,none⟩) n cap] 34)).heap[w.heap.size]?=some (.cells #[.int .i64 x0,.int .i64 x1,.int .i64 x2,.int .i64 x3,.slice (some ⟨g,off,none⟩) n cap] 34 (0,0))):=heap_alloc_new w _
 have HB:=hid_of (bstart w (.cells #[.int .i64 x0,.int .i64 x1,.int .i64 x2,.int .i64 x3,.slice (some ⟨g,off,none⟩) n cap] 34))
 unfold maxLen at _hcl
 have ne:¬ l+s=l:=by omega
 clear hc hl hs
 go_enter Tryz.func124,Tryz.ntmps124
 go_wp2_with fail
 generalize w.alloc (.cells #[.int .i64 x0,.int .i64 x1,.int .i64 x2,.int .i64 x3,.slice (some ⟨g,off,none⟩) n cap] 34)=W1 at HX HB ⊢
 refine (hr W1).mono ?_
 rintro e w2 ⟨rfl,hB2⟩
 have bx:=(hB2.block _ (block_lt HX.out)).trans HX.out
 have k4:w2.cell? ⟨w.heap.size,4,none⟩=some (.slice (some ⟨g,off,none⟩) n cap):=(cell_of_block bx 4).trans rfl
 have lx:=block_lt bx
 have HBB:=hid_of (bnext HB.out hB2)
 clear bx hB2
 go_wp2_with fail
 refine bodyPost_ret (v:=.slice (some ⟨g,off+l,none⟩) s s) ?_ rfl ⟨_,rfl,.inr ⟨g,off+l,rfl,Nat.lt_of_lt_of_le hg HBB.out.size,fun i hi=>?_⟩,HBB.out⟩
 ·simp[results,Tryz.results124,go_sem]
 ·rw[HBB.out.cell (p:=⟨g,off+l+i,none⟩) hg,Nat.add_assoc,HC.out (l+i) (by omega),HL.out]
theorem fit_row {f:Nat→Int} {s y d:Nat} (h:Fit12 f (y * s) d) (k:Fit12 (fun i=>f (y * s+i)) s d):Fit12 f ((y+1) * s) d:=fun i hi=>by
 rw[Nat.add_mul,Nat.one_mul] at hi
 by_cases e:i < y * s
 ·exact h i e
 ·have:0≤f (y * s+(i - y * s))∧f (y * s+(i - y * s)) < p2 d:=k (i - y * s) (by omega)
  rw[show y * s+(i - y * s)=i by omega] at this
  exact this
set_option maxRecDepth 100000 in
set_option maxHeartbeats 3200000 in
theorem implRaster (x0 x1 x2 x3:Int) (a:Option Addr) (n cap:Nat) (f:Nat→Int) (w:World) (hC:Came w a n f) (_hn:n≤1048576) (hcap:n≤cap) (hcl:cap≤maxLen):
  Calls Tryz.prog 98 #[.agg #[.int .i64 x0,.int .i64 x1,.int .i64 x2,.int .i64 x3,.slice a n cap]] w (RasPost x0 x1 x2 x3 n f w):=by
 have hs0:=isSide_any x0
 have hs1:=isSide_any x1
 have hd:=implDepth x2 x3
 have HC:=hid_of hC
 have HB:=hid_of (bstart w (.cells #[.int .i64 x0,.int .i64 x1,.int .i64 x2,.int .i64 x3,.slice a n cap] 34))
 have HX:Hid ((w.alloc (.cells #[.int .i64 x0,.int .i64 x1,.int .i64 x2,.int .i64 x3,.slice a n cap] 34)).heap[w.heap.size]?=some (.cells #[.int .i64 x0,.int .i64 x1,.int .i64 x2,.int .i64 x3,.slice a n cap] 34 (0,0))):=heap_alloc_new w _
 have HCL:=hid_of hcl
 clear hC hcl
 by_cases h0:SideR x0
 ·rw[decide_eq_true h0] at hs0
  by_cases h1:SideR x1
  ·rw[decide_eq_true h1] at hs1
   by_cases h2:DepthR x2 x3
   ·rw[decide_eq_true h2] at hd
    have hcr:=chan_range x2
    have hcp:=chan_pos h2
    obtain⟨s,hs⟩:∃ s:Nat,x0 * chan x2=(s:Int):=⟨(x0 * chan x2).toNat,by
     have:=Int.mul_nonneg (show 0≤x0 by have:=h0.1; omega) hcr.1
     omega⟩
    have hsb:1≤s∧s≤96:=by
     have u:=Int.mul_le_mul h0.2 hcr.2 hcr.1 (by omega)
     have v:=Int.mul_le_mul h0.1 hcp (by omega) (show 0≤x0 by have:=h0.1; omega)
     omega
    have hrs:=fun W=>rowSize_any x0 x1 x2 x3 a n cap s W (by omega) (by omega) hs
    obtain⟨H,hH⟩:=Int.eq_ofNat_of_zero_le (show 0≤x1 by have:=h1.1; omega)
    subst hH
    have h5:=five_range (depth_five h2)
    obtain⟨d,hdd⟩:=Int.eq_ofNat_of_zero_le (show 0≤x3 by omega)
    subst hdd
    have hHb:1≤H∧H≤24:=by have:=h1.1; have:=h1.2; omega
    obtain⟨q,hq⟩:∃ q:Int,q=(H:Int) * (s:Int):=⟨_,rfl⟩
    have hqb:1≤q∧q≤2304:=by
     have u:=Int.mul_le_mul (show (H:Int)≤24 by omega) (show (s:Int)≤96 by omega) (by omega) (by omega)
     have v:=Int.mul_le_mul (show (1:Int)≤(H:Int) by omega) (show (1:Int)≤(s:Int) by omega) (by omega) (by omega)
     omega
    have rq:=hq.symm
    have w6:IntKind.i64.wrap q=q:=by rw [IntKind.wrap_i64]; omega
    have hm:x0 * (H:Int) * chan x2=q:=by rw [Int.mul_assoc,Int.mul_comm (H:Int),← Int.mul_assoc,hs,Int.mul_comm,hq]
    by_cases h3:(n:Int)=q
    ·have e1:((n:Int) == q)=true:=by simpa using h3
     have e2:((n:Int) != q)=false:=by simpa using h3
     have e3:decide ((n:Int)=q)=true:=decide_eq_true h3
     have HR:Hid (RasR x0 (H:Int) x2 (d:Int) n f↔Fit12 f n d):=⟨fun h=>h.2.2.2.2,fun h=>⟨h0,h1,h2,by rw [hm]; exact h3,h⟩⟩
     have hnh:n=H * s:=by
      have:(n:Int)=((H * s:Nat):Int):=by rw [h3,hq]; simp
      omega
     have HNH:=hid_of hnh
     have HSS:=hid_of hs
     have HNQ:Hid ((n:Int)=q):=h3
     clear h0 h1 h2 hcr hcp hs hq hm h3 hnh
     go_enter Tryz.func98,Tryz.ntmps98
     go_wp2_with fail
     generalize w.alloc (.cells #[.int .i64 x0,.int .i64 (H:Int),.int .i64 x2,.int .i64 (d:Int),.slice a n cap] 34)=W1 at HX HB ⊢
     refine (hs0 W1).mono ?_
     rintro e w0 ⟨rfl,rfl⟩
     have a1:w0.cell? ⟨w.heap.size,1,none⟩=some (.int .i64 (H:Int)):=(cell_of_block HX.out 1).trans rfl
     have a2:w0.cell? ⟨w.heap.size,2,none⟩=some (.int .i64 x2):=(cell_of_block HX.out 2).trans rfl
     have a3:w0.cell? ⟨w.heap.size,3,none⟩=some (.int .i64 (d:Int)):=(cell_of_block HX.out 3).trans rfl
     have lx0:=block_lt HX.out
     go_wp2_with fail
     refine (hs1 w0).mono ?_
     rintro e w00 ⟨rfl,rfl⟩
     go_wp2_with fail
     refine (hd w00).mono ?_
     rintro e w1 ⟨rfl,hB1⟩
     have bx1:=(hB1.block _ (block_lt HX.out)).trans HX.out
     have k0:w1.cell? ⟨w.heap.size,0,none⟩=some (.int .i64 x0):=(cell_of_block bx1 0).trans rfl
     have k1:w1.cell? ⟨w.heap.size,1,none⟩=some (.int .i64 (H:Int)):=(cell_of_block bx1 1).trans rfl
     have k2:w1.cell? ⟨w.heap.size,2,none⟩=some (.int .i64 x2):=(cell_of_block bx1 2).trans rfl
     have k3:w1.cell? ⟨w.heap.size,3,none⟩=some (.int .i64 (d:Int)):=(cell_of_block bx1 3).trans rfl
     have k4:w1.cell? ⟨w.heap.size,4,none⟩=some (.slice a n cap):=(cell_of_block bx1 4).trans rfl
     have lx1:=block_lt bx1
     have BX:=hid_of bx1
     have HB1:=hid_of (bnext HB.out hB1)
     clear bx1 hB1 a1 a2 a3 lx0 HX HB
     go_wp2_with fail
     refine wp_region_held (S:=fun u=>u.cell? ⟨w.heap.size,0,none⟩=some (.int .i64 x0)∧u.cell? ⟨w.heap.size,1,none⟩=some (.int .i64 (H:Int))∧u.cell? ⟨w.heap.size,2,none⟩=some (.int .i64 x2)∧u.cell? ⟨w.heap.size,3,none⟩=some (.int .i64 (d:Int))∧u.cell? ⟨w.heap.size,4,none⟩=some (.slice a n cap)) (by kernel_rfl) ?_
     show wpAnyH _ _ _ _ _ _ _ _ w1.drew
     have HS:w1.drew.cell? ⟨w.heap.size,0,none⟩=some (.int .i64 x0)∧w1.drew.cell? ⟨w.heap.size,1,none⟩=some (.int .i64 (H:Int))∧w1.drew.cell? ⟨w.heap.size,2,none⟩=some (.int .i64 x2)∧w1.drew.cell? ⟨w.heap.size,3,none⟩=some (.int .i64 (d:Int))∧w1.drew.cell? ⟨w.heap.size,4,none⟩=some (.slice a n cap):=⟨k0,k1,k2,k3,k4⟩
     refine zqt 0 (.pointer (some ⟨w.heap.size,4,none⟩)) rfl ?_ HS ?_
     ·intro w' hS
      obtain⟨s0,s1,s2,s3,s4⟩:=hS
      go_simp
     simp only [Act.put,zga,zgb,zsa,zsb,zsc]
     refine zqt 1 (.slice a n cap) rfl ?_ HS ?_
     ·intro w' hS
      obtain⟨s0,s1,s2,s3,s4⟩:=hS
      go_simp
     simp only [Act.put,zga,zgb,zgc,zsa,zsb,zsc]
     refine zqt 2 (.int .i64 (n:Int)) rfl ?_ HS ?_
     ·intro w' hS
      obtain⟨s0,s1,s2,s3,s4⟩:=hS
      go_simp
     simp only [Act.put,zga,zgb,zgc,zsa,zsb,zsc]
     refine zqt 3 (.pointer (some ⟨w.heap.size,1,none⟩)) rfl ?_ HS ?_
     ·intro w' hS
      obtain⟨s0,s1,s2,s3,s4⟩:=hS
      go_simp
     simp only [Act.put,zga,zgb,zgc,zsa,zsb,zsc]
     refine zqt 4 (.int .i64 (H:Int)) rfl ?_ HS ?_
     ·intro w' hS
      obtain⟨s0,s1,s2,s3,s4⟩:=hS
      go_simp
     simp only [Act.put,zga,zgb,zgc,zsa,zsb,zsc]
     refine zqt 5 (.agg #[.int .i64 x0,.int .i64 (H:Int),.int .i64 x2,.int .i64 (d:Int),.slice a n cap]) rfl ?_ HS ?_
     ·intro w' hS
      obtain⟨s0,s1,s2,s3,s4⟩:=hS
      go_simp
     simp only [Act.put,zga,zgb,zgc,zsa,zsb,zsc]
     refine zqr 6 rfl (fun K hK=>?_)
     refine if_wanted (wanted_none rfl) ?_
     simp only [zga,zgb,zgc]
     go_simp
     refine (hrs w1.drew).mono ?_
     rintro e w2 ⟨rfl,hB2⟩
     have bx2:w2.heap[w.heap.size]?=_:=(hB2.block _ (by exact block_lt BX.out)).trans BX.out
     have HB2:Hid (Below w.heap.size w w2):=bnext HB1.out ⟨hB2.1,hB2.2,hB2.3,hB2.4,hB2.5⟩
     have g0:w2.cell? ⟨w.heap.size,0,none⟩=some (.int .i64 x0):=(cell_of_block bx2 0).trans rfl
     have g1:w2.cell? ⟨w.heap.size,1,none⟩=some (.int .i64 (H:Int)):=(cell_of_block bx2 1).trans rfl
     have g2:w2.cell? ⟨w.heap.size,2,none⟩=some (.int .i64 x2):=(cell_of_block bx2 2).trans rfl
     have g3:w2.cell? ⟨w.heap.size,3,none⟩=some (.int .i64 (d:Int)):=(cell_of_block bx2 3).trans rfl
     have g4:w2.cell? ⟨w.heap.size,4,none⟩=some (.slice a n cap):=(cell_of_block bx2 4).trans rfl
     have lx2:=block_lt bx2
     have BX2:=hid_of bx2
     clear bx2 hB2
     refine hK.out _ _ ⟨g0,g1,g2,g3,g4⟩ (fun HS2=>?_)
     clear hK K
     refine zqt 7 (.int .i64 q) rfl ?_ HS2 ?_
     ·intro w' hS
      obtain⟨s0,s1,s2,s3,s4⟩:=hS
      go_simp
     simp only [Act.put,zga,zgb,zgc,zsa,zsb,zsc]
     refine zqt 8 (.bool false) rfl ?_ HS2 ?_
     ·intro w' hS
      obtain⟨s0,s1,s2,s3,s4⟩:=hS
      go_simp
     simp only [Act.put,zga,zgb,zgc,zsa,zsb,zsc]
     refine wpAnyH_done (by kernel_rfl) ?_ _
     clear k0 k1 k2 k3 k4 lx1 BX HB1
     go_wp2_with fail
     clear g0 g2 g3 g4 lx2 rq w6 e1 e2 e3 hrs hs0 hs1 hd
     have hq2:n≤100000∧1≤n:=by
      have:=HNQ.out
      omega
     go_loopw [33] (fun i w'=>∃ y:Nat,y≤H∧i=.int .i64 y∧Hid (Fit12 f (y * s) d∧Below w2.heap.size w2 w')) (fun i _=>H - (intOf i).toNat)
     case atStart=>exact⟨0,Nat.zero_le _,rfl,fun i hi=>absurd hi (by rw [Nat.zero_mul]; exact Nat.not_lt_zero i),Below.refl _ _⟩
     case round=>
      clear g1
      obtain⟨y,hy,rfl,hS⟩:=hrel
      by_cases hlt:y < H
      ·have dl:decide ((y:Int) < (H:Int))=true:=decide_eq_true (by omega)
       have hin:y * s+s≤n:=by
        have:=Nat.mul_le_mul_right s (show y+1≤H by omega)
        rw[Nat.add_mul,Nat.one_mul] at this
        rw[HNH.out]
        exact this
       have bx:=(hS.out.2.block _ (block_lt BX2.out)).trans BX2.out
       have k0:wr.cell? ⟨w.heap.size,0,none⟩=some (.int .i64 x0):=(cell_of_block bx 0).trans rfl
       have k1:wr.cell? ⟨w.heap.size,1,none⟩=some (.int .i64 (H:Int)):=(cell_of_block bx 1).trans rfl
       have k2:wr.cell? ⟨w.heap.size,2,none⟩=some (.int .i64 x2):=(cell_of_block bx 2).trans rfl
       have k3:wr.cell? ⟨w.heap.size,3,none⟩=some (.int .i64 (d:Int)):=(cell_of_block bx 3).trans rfl
       have k4:wr.cell? ⟨w.heap.size,4,none⟩=some (.slice a n cap):=(cell_of_block bx 4).trans rfl
       have lx:=block_lt bx
       have BX:=hid_of bx
       have HCr:=hid_of (HC.out.called (bnext HB2.out hS.out.2))
       have hrow:=fun (W:World) (hc:Came W a n f)=>row_any x0 (H:Int) x2 (d:Int) a n cap s y f W hsb.1 hsb.2 HSS.out hc hcap HCL.out (by omega) hin hq2.2 hq2.1
       clear bx
       go_wp2_with fail
       refine wp_region_held (S:=fun u=>u.cell? ⟨w.heap.size,0,none⟩=some (.int .i64 x0)∧u.cell? ⟨w.heap.size,1,none⟩=some (.int .i64 (H:Int))∧u.cell? ⟨w.heap.size,2,none⟩=some (.int .i64 x2)∧u.cell? ⟨w.heap.size,3,none⟩=some (.int .i64 (d:Int))∧u.cell? ⟨w.heap.size,4,none⟩=some (.slice a n cap)) (by kernel_rfl) ?_
       show wpAnyH _ _ _ _ _ _ _ _ wr.drew
       have HS:wr.drew.cell? ⟨w.heap.size,0,none⟩=some (.int .i64 x0)∧wr.drew.cell? ⟨w.heap.size,1,none⟩=some (.int .i64 (H:Int))∧wr.drew.cell? ⟨w.heap.size,2,none⟩=some (.int .i64 x2)∧wr.drew.cell? ⟨w.heap.size,3,none⟩=some (.int .i64 (d:Int))∧wr.drew.cell? ⟨w.heap.size,4,none⟩=some (.slice a n cap):=⟨k0,k1,k2,k3,k4⟩
       refine zqt 0 (.agg #[.int .i64 x0,.int .i64 (H:Int),.int .i64 x2,.int .i64 (d:Int),.slice a n cap]) rfl ?_ HS ?_
       ·intro w' hS
        obtain⟨s0,s1,s2,s3,s4⟩:=hS
        go_simp
       simp only [Act.put,zga,zgb,zsa,zsb,zsc]
       refine zqt 1 (.int .i64 (y:Int)) rfl ?_ HS ?_
       ·intro w' hS
        obtain⟨s0,s1,s2,s3,s4⟩:=hS
        go_simp
       simp only [Act.put,zga,zgb,zgc,zsa,zsb,zsc]
       refine zqt 3 (.pointer (some ⟨w.heap.size,3,none⟩)) rfl ?_ HS ?_
       ·intro w' hS
        obtain⟨s0,s1,s2,s3,s4⟩:=hS
        go_simp
       simp only [Act.put,zga,zgb,zgc,zsa,zsb,zsc]
       refine zqt 4 (.int .i64 (d:Int)) rfl ?_ HS ?_
       ·intro w' hS
        obtain⟨s0,s1,s2,s3,s4⟩:=hS
        go_simp
       simp only [Act.put,zga,zgb,zgc,zsa,zsb,zsc]
       refine zqr 2 rfl (fun K hK=>?_)
       refine if_wanted (wanted_none rfl) ?_
       simp only [zga,zgb,zgc]
       go_simp
       refine (hrow wr.drew (by exact HCr.out)).mono ?_
       rintro e w3 ⟨a',rfl,hC3,hB3⟩
       have bx3:w3.heap[w.heap.size]?=_:=(hB3.block _ (by exact block_lt BX.out)).trans BX.out
       have HB3:Hid (Below wr.heap.size wr w3):=⟨hB3.1,hB3.2,hB3.3,hB3.4,hB3.5⟩
       have g0:w3.cell? ⟨w.heap.size,0,none⟩=some (.int .i64 x0):=(cell_of_block bx3 0).trans rfl
       have g1:w3.cell? ⟨w.heap.size,1,none⟩=some (.int .i64 (H:Int)):=(cell_of_block bx3 1).trans rfl
       have g2:w3.cell? ⟨w.heap.size,2,none⟩=some (.int .i64 x2):=(cell_of_block bx3 2).trans rfl
       have g3:w3.cell? ⟨w.heap.size,3,none⟩=some (.int .i64 (d:Int)):=(cell_of_block bx3 3).trans rfl
       have g4:w3.cell? ⟨w.heap.size,4,none⟩=some (.slice a n cap):=(cell_of_block bx3 4).trans rfl
       have HC3:=hid_of hC3
       clear bx3 hB3 hC3 hrow
       refine hK.out _ _ ⟨g0,g1,g2,g3,g4⟩ (fun HS2=>?_)
       clear hK K
       refine zqr 5 rfl (fun K hK=>?_)
       refine if_wanted (wanted_none rfl) ?_
       simp only [zga,zgb,zgc]
       go_simp
       refine (samples_any a' s s d _ w3 HC3.out (by omega) (by omega)).mono ?_
       rintro e w4 ⟨b,rfl,hb,rfl⟩
       refine hK.out _ _ ⟨g0,g1,g2,g3,g4⟩ (fun HS3=>?_)
       clear hK K
       refine zqt 6 (.bool (!b)) rfl ?_ HS3 ?_
       ·intro w' hS
        obtain⟨s0,s1,s2,s3,s4⟩:=hS
        go_simp
       simp only [Act.put,zga,zgb,zgc,zsa,zsb,zsc]
       refine wpAnyH_done (by kernel_rfl) ?_ _
       by_cases hf:Fit12 (fun i=>f (y * s+i)) s d
       ·obtain rfl:=hb.mpr hf
        have HN:Hid (Fit12 f ((y+1) * s) d∧Below w2.heap.size w2 w4):=⟨fit_row hS.out.1 hf,bnext hS.out.2 HB3.out⟩
        clear hb hf hS
        go_wp2_with fail
        go_roundw
        case rel=>exact⟨y+1,by omega,by go_num,HN⟩
        case measure=>simp [intOf]; omega
       ·obtain rfl:b=false:=by
         cases b
         ·rfl
         ·exact absurd (hb.mp rfl) hf
        have HN:Hid (¬ RasR x0 (H:Int) x2 (d:Int) n f):=fun h=>hf (fun i hi=>HR.out.mp h (y * s+i) (by omega))
        have HBE:=hid_of (bnext (bnext HB2.out hS.out.2) HB3.out)
        clear hb hf hS
        go_wp2_with fail
        go_ret
        exact ras_no HN.out HBE.out
      ·obtain rfl:y=H:=by omega
       have dl:decide ((y:Int) < (y:Int))=false:=decide_eq_false (by omega)
       have HY:Hid (RasR x0 (y:Int) x2 (d:Int) n f):=HR.out.mpr (by rw [HNH.out]; exact hS.out.1)
       have HBE:=hid_of (bnext HB2.out hS.out.2)
       clear hS
       go_wp2_with fail
       go_ret
       exact ras_yes HY.out HBE.out
    ·have e1:((n:Int) == q)=false:=by simpa using h3
     have e2:((n:Int) != q)=true:=by simpa using h3
     have e3:decide ((n:Int)=q)=false:=decide_eq_false h3
     have HR:Hid (¬ RasR x0 (H:Int) x2 (d:Int) n f):=fun h=>h3 (by have:=h.2.2.2.1; rw [hm] at this; exact this)
     clear h0 h1 h2 hcr hcp hs hq hm h3
     go_enter Tryz.func98,Tryz.ntmps98
     go_wp2_with fail
     generalize w.alloc (.cells #[.int .i64 x0,.int .i64 (H:Int),.int .i64 x2,.int .i64 (d:Int),.slice a n cap] 34)=W1 at HX HB ⊢
     refine (hs0 W1).mono ?_
     rintro e w0 ⟨rfl,rfl⟩
     have a1:w0.cell? ⟨w.heap.size,1,none⟩=some (.int .i64 (H:Int)):=(cell_of_block HX.out 1).trans rfl
     have a2:w0.cell? ⟨w.heap.size,2,none⟩=some (.int .i64 x2):=(cell_of_block HX.out 2).trans rfl
     have a3:w0.cell? ⟨w.heap.size,3,none⟩=some (.int .i64 (d:Int)):=(cell_of_block HX.out 3).trans rfl
     have lx0:=block_lt HX.out
     go_wp2_with fail
     refine (hs1 w0).mono ?_
     rintro e w00 ⟨rfl,rfl⟩
     go_wp2_with fail
     refine (hd w00).mono ?_
     rintro e w1 ⟨rfl,hB1⟩
     have bx1:=(hB1.block _ (block_lt HX.out)).trans HX.out
     have k0:w1.cell? ⟨w.heap.size,0,none⟩=some (.int .i64 x0):=(cell_of_block bx1 0).trans rfl
     have k1:w1.cell? ⟨w.heap.size,1,none⟩=some (.int .i64 (H:Int)):=(cell_of_block bx1 1).trans rfl
     have k2:w1.cell? ⟨w.heap.size,2,none⟩=some (.int .i64 x2):=(cell_of_block bx1 2).trans rfl
     have k3:w1.cell? ⟨w.heap.size,3,none⟩=some (.int .i64 (d:Int)):=(cell_of_block bx1 3).trans rfl
     have k4:w1.cell? ⟨w.heap.size,4,none⟩=some (.slice a n cap):=(cell_of_block bx1 4).trans rfl
     have lx1:=block_lt bx1
     have BX:=hid_of bx1
     have HB1:=hid_of (bnext HB.out hB1)
     clear bx1 hB1 a1 a2 a3 lx0 HX HB
     go_wp2_with fail
     refine wp_region_held (S:=fun u=>u.cell? ⟨w.heap.size,0,none⟩=some (.int .i64 x0)∧u.cell? ⟨w.heap.size,1,none⟩=some (.int .i64 (H:Int))∧u.cell? ⟨w.heap.size,2,none⟩=some (.int .i64 x2)∧u.cell? ⟨w.heap.size,3,none⟩=some (.int .i64 (d:Int))∧u.cell? ⟨w.heap.size,4,none⟩=some (.slice a n cap)) (by kernel_rfl) ?_
     show wpAnyH _ _ _ _ _ _ _ _ w1.drew
     have HS:w1.drew.cell? ⟨w.heap.size,0,none⟩=some (.int .i64 x0)∧w1.drew.cell? ⟨w.heap.size,1,none⟩=some (.int .i64 (H:Int))∧w1.drew.cell? ⟨w.heap.size,2,none⟩=some (.int .i64 x2)∧w1.drew.cell? ⟨w.heap.size,3,none⟩=some (.int .i64 (d:Int))∧w1.drew.cell? ⟨w.heap.size,4,none⟩=some (.slice a n cap):=⟨k0,k1,k2,k3,k4⟩
     refine zqt 0 (.pointer (some ⟨w.heap.size,4,none⟩)) rfl ?_ HS ?_
     ·intro w' hS
      obtain⟨s0,s1,s2,s3,s4⟩:=hS
      go_simp
     simp only [Act.put,zga,zgb,zsa,zsb,zsc]
     refine zqt 1 (.slice a n cap) rfl ?_ HS ?_
     ·intro w' hS
      obtain⟨s0,s1,s2,s3,s4⟩:=hS
      go_simp
     simp only [Act.put,zga,zgb,zgc,zsa,zsb,zsc]
     refine zqt 2 (.int .i64 (n:Int)) rfl ?_ HS ?_
     ·intro w' hS
      obtain⟨s0,s1,s2,s3,s4⟩:=hS
      go_simp
     simp only [Act.put,zga,zgb,zgc,zsa,zsb,zsc]
     refine zqt 3 (.pointer (some ⟨w.heap.size,1,none⟩)) rfl ?_ HS ?_
     ·intro w' hS
      obtain⟨s0,s1,s2,s3,s4⟩:=hS
      go_simp
     simp only [Act.put,zga,zgb,zgc,zsa,zsb,zsc]
     refine zqt 4 (.int .i64 (H:Int)) rfl ?_ HS ?_
     ·intro w' hS
      obtain⟨s0,s1,s2,s3,s4⟩:=hS
      go_simp
     simp only [Act.put,zga,zgb,zgc,zsa,zsb,zsc]
     refine zqt 5 (.agg #[.int .i64 x0,.int .i64 (H:Int),.int .i64 x2,.int .i64 (d:Int),.slice a n cap]) rfl ?_ HS ?_
     ·intro w' hS
      obtain⟨s0,s1,s2,s3,s4⟩:=hS
      go_simp
     simp only [Act.put,zga,zgb,zgc,zsa,zsb,zsc]
     refine zqr 6 rfl (fun K hK=>?_)
     refine if_wanted (wanted_none rfl) ?_
     simp only [zga,zgb,zgc]
     go_simp
     refine (hrs w1.drew).mono ?_
     rintro e w2 ⟨rfl,hB2⟩
     have bx2:w2.heap[w.heap.size]?=_:=(hB2.block _ (by exact block_lt BX.out)).trans BX.out
     have HB2:Hid (Below w.heap.size w w2):=bnext HB1.out ⟨hB2.1,hB2.2,hB2.3,hB2.4,hB2.5⟩
     have g0:w2.cell? ⟨w.heap.size,0,none⟩=some (.int .i64 x0):=(cell_of_block bx2 0).trans rfl
     have g1:w2.cell? ⟨w.heap.size,1,none⟩=some (.int .i64 (H:Int)):=(cell_of_block bx2 1).trans rfl
     have g2:w2.cell? ⟨w.heap.size,2,none⟩=some (.int .i64 x2):=(cell_of_block bx2 2).trans rfl
     have g3:w2.cell? ⟨w.heap.size,3,none⟩=some (.int .i64 (d:Int)):=(cell_of_block bx2 3).trans rfl
     have g4:w2.cell? ⟨w.heap.size,4,none⟩=some (.slice a n cap):=(cell_of_block bx2 4).trans rfl
     have lx2:=block_lt bx2
     have BX2:=hid_of bx2
     clear bx2 hB2
     refine hK.out _ _ ⟨g0,g1,g2,g3,g4⟩ (fun HS2=>?_)
     clear hK K
     refine zqt 7 (.int .i64 q) rfl ?_ HS2 ?_
     ·intro w' hS
      obtain⟨s0,s1,s2,s3,s4⟩:=hS
      go_simp
     simp only [Act.put,zga,zgb,zgc,zsa,zsb,zsc]
     refine zqt 8 (.bool true) rfl ?_ HS2 ?_
     ·intro w' hS
      obtain⟨s0,s1,s2,s3,s4⟩:=hS
      go_simp
     simp only [Act.put,zga,zgb,zgc,zsa,zsb,zsc]
     refine wpAnyH_done (by kernel_rfl) ?_ _
     clear k0 k1 k2 k3 k4 lx1 BX HB1
     go_wp2_with fail
     go_ret
     exact ras_no HR.out HB2.out
   ·rw[decide_eq_false h2] at hd
    have HR:Hid (¬ RasR x0 x1 x2 x3 n f):=fun h=>h2 h.2.2.1
    clear h0 h1 h2
    go_enter Tryz.func98,Tryz.ntmps98
    go_wp2_with fail
    generalize w.alloc (.cells #[.int .i64 x0,.int .i64 x1,.int .i64 x2,.int .i64 x3,.slice a n cap] 34)=W1 at HX HB ⊢
    refine (hs0 W1).mono ?_
    rintro e w0 ⟨rfl,rfl⟩
    have a1:w0.cell? ⟨w.heap.size,1,none⟩=some (.int .i64 x1):=(cell_of_block HX.out 1).trans rfl
    have a2:w0.cell? ⟨w.heap.size,2,none⟩=some (.int .i64 x2):=(cell_of_block HX.out 2).trans rfl
    have a3:w0.cell? ⟨w.heap.size,3,none⟩=some (.int .i64 x3):=(cell_of_block HX.out 3).trans rfl
    have lx0:=block_lt HX.out
    go_wp2_with fail
    refine (hs1 w0).mono ?_
    rintro e w00 ⟨rfl,rfl⟩
    go_wp2_with fail
    refine (hd w00).mono ?_
    rintro e w1 ⟨rfl,hB1⟩
    have HB1:=hid_of (bnext HB.out hB1)
    clear hB1
    go_wp2_with fail
    go_ret
    exact ras_no HR.out HB1.out
  ·rw[decide_eq_false h1] at hs1
   have HR:Hid (¬ RasR x0 x1 x2 x3 n f):=fun h=>h1 h.2.1
   clear h0 h1
   go_enter Tryz.func98,Tryz.ntmps98
   go_wp2_with fail
   generalize w.alloc (.cells #[.int .i64 x0,.int .i64 x1,.int .i64 x2,.int .i64 x3,.slice a n cap] 34)=W1 at HX HB ⊢
   refine (hs0 W1).mono ?_
   rintro e w0 ⟨rfl,rfl⟩
   have a1:w0.cell? ⟨w.heap.size,1,none⟩=some (.int .i64 x1):=(cell_of_block HX.out 1).trans rfl
   have a2:w0.cell? ⟨w.heap.size,2,none⟩=some (.int .i64 x2):=(cell_of_block HX.out 2).trans rfl
   have a3:w0.cell? ⟨w.heap.size,3,none⟩=some (.int .i64 x3):=(cell_of_block HX.out 3).trans rfl
   have lx0:=block_lt HX.out
   go_wp2_with fail
   refine (hs1 w0).mono ?_
   rintro e w00 ⟨rfl,rfl⟩
   go_wp2_with fail
   go_ret
   exact ras_no HR.out HB.out
 ·rw[decide_eq_false h0] at hs0
  have HR:Hid (¬ RasR x0 x1 x2 x3 n f):=fun h=>h0 h.1
  clear h0
  go_enter Tryz.func98,Tryz.ntmps98
  go_wp2_with fail
  generalize w.alloc (.cells #[.int .i64 x0,.int .i64 x1,.int .i64 x2,.int .i64 x3,.slice a n cap] 34)=W1 at HX HB ⊢
  refine (hs0 W1).mono ?_
  rintro e w0 ⟨rfl,rfl⟩
  go_wp2_with fail
  go_ret
  exact ras_no HR.out HB.out
end
end Go.Proofs.YtkpbfmdnjnohlaaGreat
