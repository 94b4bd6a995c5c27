/-
  Texts of the proof, put together.
-/
import Derived.Test.YtkpbfmdnjnohlaaGreatTk14
import Derived.Test.YtkpbfmdnjnohlaaGreatTk08
namespace Go.Proofs.YtkpbfmdnjnohlaaGreat
open Go.RowKit Go.Joins ChunkMath CrcMath
def TouchyPost (n:Nat) (K:Nat→Chk) (w:World) (e:Ending) (w':World):Prop:=∃ b,e=.returned (.bool b)∧(b=true↔TouchyR n K)∧Below w.heap.size w w'
theorem touchy_yes {n j:Nat} {K:Nat→Chk} {w w':World} (hj:j < n) (h:¬ SafeR (K j).1) (hb:Below w.heap.size w w'):TouchyPost n K w (.returned (.bool true)) w':=⟨true,rfl,⟨fun _ k=>h (k j hj),fun _=>rfl⟩,hb⟩
theorem touchy_no {n:Nat} {K:Nat→Chk} {w w':World} (h:∀ i,i < n→SafeR (K i).1) (hb:Below w.heap.size w w'):TouchyPost n K w (.returned (.bool false)) w':=⟨false,rfl,⟨fun e=>(by cases e),fun k=>absurd h k⟩,hb⟩
set_option maxRecDepth 100000 in
set_option maxHeartbeats 1600000 in
theorem specTouchy (p:Pic) (q:PicA) (w:World) (hC:KCame w q.ka p.kn p.K) (hn:p.kn≤1048576):
  Calls Tryz.prog 70 #[pngV p q] w (TouchyPost p.kn p.K w):=by
 obtain⟨hw,hh,hd,hc',lace,tn,T,cn,C,rw',rh,rc,rd,sn,S,n,K⟩:=p
 obtain⟨ta,tc,ca,cc,sa,sc,a,kc⟩:=q
 have HC:=hid_of hC
 have hn':n≤1048576:=hn
 clear hC hn
 have H0:Hid (Below w.heap.size w (w.alloc (.cells #[.int .i64 hw,.int .i64 hh,.int .i64 hd,.int .i64 hc',.bool lace,.slice ta tn tc,.slice ca cn cc,.int .i64 rw',.int .i64 rh,.int .i64 rc,.int .i64 rd,.slice sa sn sc,.slice a n kc] 37))∧(w.alloc (.cells #[.int .i64 hw,.int .i64 hh,.int .i64 hd,.int .i64 hc',.bool lace,.slice ta tn tc,.slice ca cn cc,.int .i64 rw',.int .i64 rh,.int .i64 rc,.int .i64 rd,.slice sa sn sc,.slice a n kc] 37)).heap[w.heap.size]?=some (.cells #[.int .i64 hw,.int .i64 hh,.int .i64 hd,.int .i64 hc',.bool lace,.slice ta tn tc,.slice ca cn cc,.int .i64 rw',.int .i64 rh,.int .i64 rc,.int .i64 rd,.slice sa sn sc,.slice a n kc] 37 (0,0))):=⟨bstart _ _,heap_alloc_new _ _⟩
 show Calls Tryz.prog 70 #[.agg #[.int .i64 hw,.int .i64 hh,.int .i64 hd,.int .i64 hc',.bool lace,.slice ta tn tc,.slice ca cn cc,.int .i64 rw',.int .i64 rh,.int .i64 rc,.int .i64 rd,.slice sa sn sc,.slice a n kc]] w (TouchyPost n K w)
 go_enter Tryz.func70,Tryz.ntmps70
 go_wp2_with fail
 go_loopw [3] (fun i w'=>∃ j:Nat,j≤n∧i=.int .i64 j∧Hid ((∀ i,i < j→SafeR (K i).1)∧Below w.heap.size w w'∧w'.heap[w.heap.size]?=some (.cells #[.int .i64 hw,.int .i64 hh,.int .i64 hd,.int .i64 hc',.bool lace,.slice ta tn tc,.slice ca cn cc,.int .i64 rw',.int .i64 rh,.int .i64 rc,.int .i64 rd,.slice sa sn sc,.slice a n kc] 37 (0,0)))) (fun i _=>n - (intOf i).toNat)
 case atStart=>exact⟨0,Nat.zero_le _,rfl,fun i hi=>absurd hi (Nat.not_lt_zero i),H0.out⟩
 case round=>
  obtain⟨j,hj,rfl,hI⟩:=hrel
  clear H0
  have a12:=(cell_of_block hI.out.2.2 12).trans rfl
  have l0:=block_lt hI.out.2.2
  by_cases hlt:j < n
  ·rcases HC.out with h0 | ⟨g,off,rfl,hg,hc⟩
   ·omega
   ·have c0:wr.cell? ⟨g,off+j * 2,none⟩=some (.string (K j).1):=(hI.out.2.1.cell (p:=⟨g,off+j * 2,none⟩) hg).trans (hc j hlt).1
    have c1:wr.cell? ⟨g,off+j * 2+1,none⟩=some (.string (K j).2):=(hI.out.2.1.cell (p:=⟨g,off+j * 2+1,none⟩) hg).trans (hc j hlt).2
    have hl2:g < wr.heap.size:=Nat.lt_of_lt_of_le hg hI.out.2.1.size
    have hs:=fun V=>specSafeToCopy (K j).1 V
    have HNo:Hid (¬ SafeR (K j).1→∀ W,Below w.heap.size w W→TouchyPost n K w (.returned (.bool true)) W):=fun h W hb=>touchy_yes hlt h hb
    have HYes:Hid (SafeR (K j).1→∀ i,i < j+1→SafeR (K i).1):=fun h i hi=>by
     by_cases e:i=j
     ·rw[e]; exact h
     ·exact hI.out.1 i (by omega)
    obtain⟨x,hx⟩:∃ x,x=(K j).1:=⟨_,rfl⟩
    rw[← hx] at c0 hs HNo HYes
    clear hx hc
    by_cases p1:x=sbitN
    ·have e1:(x.toList == [115,66,73,84])=true:=by rw [← sbit_list]; exact text_is p1
     have HN:=hid_of (HNo.out (p1 ▸ sbit_not))
     clear p1 HNo HYes hs
     go_wp2_with fail
     go_ret
     exact HN.out _ hI.out.2.1
    have e1:(x.toList == [115,66,73,84])=false:=by rw [← sbit_list]; exact text_not p1
    by_cases p2:x=bkgdN
    ·have e2:(x.toList == [98,75,71,68])=true:=by rw [← bkgd_list]; exact text_is p2
     have HN:=hid_of (HNo.out (p2 ▸ bkgd_not))
     clear p1 p2 HNo HYes hs
     go_wp2_with fail
     go_ret
     exact HN.out _ hI.out.2.1
    have e2:(x.toList == [98,75,71,68])=false:=by rw [← bkgd_list]; exact text_not p2
    by_cases p3:x=histN
    ·have e3:(x.toList == [104,73,83,84])=true:=by rw [← hist_list]; exact text_is p3
     have HN:=hid_of (HNo.out (p3 ▸ hist_not))
     clear p1 p2 p3 HNo HYes hs
     go_wp2_with fail
     go_ret
     exact HN.out _ hI.out.2.1
    have e3:(x.toList == [104,73,83,84])=false:=by rw [← hist_list]; exact text_not p3
    clear p1 p2 p3
    by_cases p4:NameR x∧97≤byteAt x 3
    ·rw[decide_eq_true p4] at hs
     have HY:=hid_of (HYes.out p4)
     clear p4 HNo HYes
     go_wp2_with fail
     refine (hs _).mono ?_
     rintro e w1 ⟨rfl,rfl⟩
     go_wp2_with fail
     go_roundw
     case rel=>exact⟨j+1,by omega,by go_num,HY.out,hI.out.2⟩
     case measure=>simp [intOf]; omega
    ·rw[decide_eq_false p4] at hs
     have HN:=hid_of (HNo.out p4)
     clear p4 HNo HYes
     go_wp2_with fail
     refine (hs _).mono ?_
     rintro e w1 ⟨rfl,rfl⟩
     go_wp2_with fail
     go_ret
     exact HN.out _ hI.out.2.1
  ·obtain rfl:j=n:=by omega
   go_wp2_with fail
   go_ret
   exact touchy_no hI.out.1 hI.out.2.1
end Go.Proofs.YtkpbfmdnjnohlaaGreat
