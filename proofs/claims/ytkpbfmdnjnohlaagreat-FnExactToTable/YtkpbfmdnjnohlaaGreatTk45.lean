/-
  Texts of the proof, put together.
-/
import Derived.Test.YtkpbfmdnjnohlaaGreatTk41
import Derived.Test.YtkpbfmdnjnohlaaGreatTk33
namespace Go.Proofs.YtkpbfmdnjnohlaaGreat
open Go.RowKit Go.Joins ChunkMath CrcMath
theorem unsafe_any (x y:ByteArray) (w:World):
  Calls Tryz.prog 105 #[.agg #[.string x,.string y]] w fun e w'=>e=.returned (.bool (!decide (NameR x∧97≤byteAt x 3)))∧Below w.heap.size w w':=by
 have H0:Hid (Below w.heap.size w (w.alloc (.cells #[.string x,.string y] 93))∧(w.alloc (.cells #[.string x,.string y] 93)).heap[w.heap.size]?=some (.cells #[.string x,.string y] 93 (0,0))):=⟨bstart _ _,heap_alloc_new _ _⟩
 have hs:=fun V=>implSafeToCopy x V
 generalize decide (NameR x∧97≤byteAt x 3)=t at hs ⊢
 go_enter Tryz.func105,Tryz.ntmps105
 go_wp2_with fail
 refine (hs _).mono ?_
 rintro e w1 ⟨rfl,rfl⟩
 go_wp2_with fail
 go_ret
 exact⟨rfl,H0.out.1⟩
def IdxTPost (n:Nat) (K:Nat→Chk) (w:World) (e:Ending) (w':World):Prop:=∃ z:Int,e=.returned (.int .i64 z)∧(0≤z↔TouchyR n K)∧Below w.heap.size w w'
set_option maxRecDepth 100000 in
set_option maxHeartbeats 1600000 in
theorem indexT_any (a:Option Addr) (n cap:Nat) (K:Nat→Chk) (w:World) (hC:KCame w a n K) (hn:n≤1048576):
  Calls Tryz.prog 129 #[.slice a n cap,.func (.func 105) #[] #[]] w (IdxTPost n K w):=by
 have HC:=hid_of hC
 clear hC
 go_enter Tryz.func129,Tryz.ntmps129
 go_wp2_with fail
 go_loopw [8] (fun i w'=>∃ j:Nat,j≤n∧i=.int .i64 j∧Hid ((∀ i,i < j→SafeR (K i).1)∧Below w.heap.size w w')) (fun i _=>n - (intOf i).toNat)
 case atStart=>exact⟨0,Nat.zero_le _,rfl,fun i hi=>absurd hi (Nat.not_lt_zero i),Below.refl _ _⟩
 case round=>
  obtain⟨j,hj,rfl,hI⟩:=hrel
  by_cases hlt:j < n
  ·rcases HC.out with h0 | ⟨g,off,rfl,hg,hc⟩
   ·omega
   ·have c0:wr.cell? ⟨g,off+j * 2,none⟩=some (.string (K j).1):=(hI.out.2.cell (p:=⟨g,off+j * 2,none⟩) hg).trans (hc j hlt).1
    have c1:wr.cell? ⟨g,off+j * 2+1,none⟩=some (.string (K j).2):=(hI.out.2.cell (p:=⟨g,off+j * 2+1,none⟩) hg).trans (hc j hlt).2
    have hl2:g < wr.heap.size:=Nat.lt_of_lt_of_le hg hI.out.2.size
    have hs:=fun V=>unsafe_any (K j).1 (K j).2 V
    have HNo:Hid (¬ SafeR (K j).1→∀ W,Below w.heap.size w W→IdxTPost n K w (.returned (.int .i64 (j:Int))) W):=fun h W hb=>⟨_,rfl,⟨fun _ k=>h (k j hlt),fun _=>by omega⟩,hb⟩
    have HYes:Hid (SafeR (K j).1→∀ i,i < j+1→SafeR (K i).1):=fun h i hi=>by
     by_cases e:i=j
     ·rw[e]; exact h
     ·exact hI.out.1 i (by omega)
    obtain⟨x,hx⟩:∃ x,x=(K j).1:=⟨_,rfl⟩
    obtain⟨y,hy⟩:∃ y,y=(K j).2:=⟨_,rfl⟩
    rw[← hx] at c0 HNo HYes
    rw[← hy] at c1
    simp only [← hx,← hy] at hs
    clear hx hy hc
    by_cases p4:NameR x∧97≤byteAt x 3
    ·rw[decide_eq_true p4] at hs
     have HY:=hid_of (HYes.out p4)
     clear p4 HNo HYes
     go_wp2_with fail
     refine (hs _).mono ?_
     rintro e w1 ⟨rfl,hB⟩
     have HB:=hid_of (bnext hI.out.2 hB)
     clear hB
     go_wp2_with fail
     go_roundw
     case rel=>exact⟨j+1,by omega,by go_num,HY.out,HB.out⟩
     case measure=>simp [intOf]; omega
    ·rw[decide_eq_false p4] at hs
     have HN:=hid_of (HNo.out p4)
     clear p4 HNo HYes
     go_wp2_with fail
     refine (hs _).mono ?_
     rintro e w1 ⟨rfl,hB⟩
     have HB:=hid_of (bnext hI.out.2 hB)
     clear hB
     go_wp2_with fail
     go_ret
     exact HN.out _ HB.out
  ·obtain rfl:j=n:=by omega
   have HN:Hid ((0≤(-1:Int))↔TouchyR j K):=⟨fun h=>absurd h (by omega),fun h=>absurd hI.out.1 h⟩
   go_wp2_with fail
   go_ret
   exact⟨_,rfl,HN.out,hI.out.2⟩
theorem hasT_any (a:Option Addr) (n cap:Nat) (K:Nat→Chk) (w:World) (hC:KCame w a n K) (hn:n≤1048576):
  Calls Tryz.prog 104 #[.slice a n cap,.func (.func 105) #[] #[]] w (TouchyPost n K w):=by
 have hi:=indexT_any a n cap K w hC hn
 clear hC
 go_enter Tryz.func104,Tryz.ntmps104
 go_wp2_with fail
 refine hi.mono ?_
 rintro e w1 ⟨z,rfl,hz,hB⟩
 have HE:Hid (decide (0≤z)=true↔TouchyR n K):=by
  show _↔_
  rw[decide_eq_true_iff]
  exact hz
 have HB:=hid_of hB
 clear hz hB
 go_wp2_with fail
 go_ret
 exact⟨_,rfl,HE.out,HB.out⟩
set_option maxRecDepth 100000 in
set_option maxHeartbeats 1600000 in
theorem implTouchy (p:Pic) (q:PicA) (w:World) (hC:KCame w q.ka p.kn p.K) (hn:p.kn≤1048576):
  Calls Tryz.prog 75 #[pngV p q] w (TouchyPost p.kn p.K w):=by
 obtain⟨hw,hh,hd,hc',lace,tn,T,cn,C,rw',rh,rc,rd,sn,S,n,K⟩:=p
 obtain⟨ta,tc,ca,cc,sa,sc,a,kc⟩:=q
 have hb0:=bstart w (.cells #[.int .i64 hw,.int .i64 hh,.int .i64 hd,.int .i64 hc',.bool lace,.slice ta tn tc,.slice ca cn cc,.int .i64 rw',.int .i64 rh,.int .i64 rc,.int .i64 rd,.slice sa sn sc,.slice a n kc] 37)
 have hhas:=hasT_any a n kc K (w.alloc (.cells #[.int .i64 hw,.int .i64 hh,.int .i64 hd,.int .i64 hc',.bool lace,.slice ta tn tc,.slice ca cn cc,.int .i64 rw',.int .i64 rh,.int .i64 rc,.int .i64 rd,.slice sa sn sc,.slice a n kc] 37)) (KCame.called hC hb0) hn
 have HB:=hid_of hb0
 clear hC hn hb0
 show Calls Tryz.prog 75 #[.agg #[.int .i64 hw,.int .i64 hh,.int .i64 hd,.int .i64 hc',.bool lace,.slice ta tn tc,.slice ca cn cc,.int .i64 rw',.int .i64 rh,.int .i64 rc,.int .i64 rd,.slice sa sn sc,.slice a n kc]] w (TouchyPost n K w)
 go_enter Tryz.func75,Tryz.ntmps75
 go_wp2_with fail
 refine hhas.mono ?_
 rintro e w1 ⟨b,rfl,hb,hB⟩
 have HE:=hid_of hb
 have HB1:=hid_of (bnext HB.out hB)
 clear hb hB
 go_wp2_with fail
 go_ret
 exact⟨_,rfl,HE.out,HB1.out⟩
end Go.Proofs.YtkpbfmdnjnohlaaGreat
