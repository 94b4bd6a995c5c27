/-
  Texts of the proof, put together.
-/
import Derived.Test.YtkpbfmdnjnohlaaGreatRd04
namespace Go.Proofs.YtkpbfmdnjnohlaaGreat
open Go.RowKit Go.Joins ChunkMath CrcMath
open scoped Classical
def KeptFlag (n:Nat) (K:Nat→Chk) (w:World) (e:Ending) (w':World):Prop:=∃ b,e=.returned (.bool b)∧(b=true↔KeptR n K)∧Below w.heap.size w w'
theorem keptF_no {n j:Nat} {K:Nat→Chk} {w wr:World} (hj:j < n) (h:¬ KeepR (K j)) (hb:Below w.heap.size w wr):KeptFlag n K w (.returned (.bool false)) wr:=⟨false,rfl,⟨fun e=>(by cases e),fun k=>absurd (k.2 j hj) h⟩,hb⟩
def KeptJ (w wr:World) (K:Nat→Chk) (j:Nat):Prop:=(∀ i,i < j→KeepR (K i))∧Below w.heap.size w wr
set_option maxRecDepth 100000 in
set_option maxHeartbeats 1600000 in
theorem implKept (a:Option Addr) (n c:Nat) (K:Nat→Chk) (w:World) (hC:KCame w a n K) (hn:n≤1048576) (hm:∀ i,i < n→(K i).2.size≤1048576):
  Calls Tryz.prog 103 #[.slice a n c] w (KeptFlag n K w):=by
 by_cases h1:n≤32
 case neg=>
  have HN:Hid (KeptFlag n K w (.returned (.bool false)) w):=⟨false,rfl,⟨fun e=>(by cases e),fun k=>absurd k.1 h1⟩,Below.refl _ _⟩
  have d1:decide ((32:Int) < (n:Int))=true:=decide_eq_true (by omega)
  clear h1 hm hC
  go_enter Tryz.func103,Tryz.ntmps103
  go_wp2_with fail
  go_ret
  exact HN.out
 have d1:decide ((32:Int) < (n:Int))=false:=decide_eq_false (by omega)
 have HC:=hid_of hC
 have HM:=hid_of hm
 have H1:=hid_of h1
 clear hC hm h1
 go_enter Tryz.func103,Tryz.ntmps103
 go_wp2_with fail
 go_loopw [10] (fun i w'=>∃ j:Nat,j≤n∧i=.int .i64 j∧Hid (KeptJ w w' K j)) (fun i _=>n - (intOf i).toNat)
 case atStart=>exact⟨0,Nat.zero_le _,rfl,fun i hi=>absurd hi (Nat.not_lt_zero i),Below.refl _ _⟩
 case round=>
  obtain⟨j,hj,rfl,hI⟩:=hrel
  by_cases hlt:j < n
  ·rcases HC.out with h0 | ⟨g,off,rfl,hg,hc⟩
   ·omega
   ·have c0:wr.cell? ⟨g,off+j * 2,none⟩=some (.string (K j).1):=(hI.out.2.cell (p:=⟨g,off+j * 2,none⟩) hg).trans (hc j hlt).1
    have c1:wr.cell? ⟨g,off+j * 2+1,none⟩=some (.string (K j).2):=(hI.out.2.cell (p:=⟨g,off+j * 2+1,none⟩) hg).trans (hc j hlt).2
    have hl2:g < wr.heap.size:=Nat.lt_of_lt_of_le hg hI.out.2.size
    have hs:=fun V=>implNeedless (K j).1 V
    have hz:=HM.out j hlt
    have HNo:Hid (¬ KeepR (K j)→∀ W,Below w.heap.size w W→KeptFlag n K w (.returned (.bool false)) W):=fun h W hb=>keptF_no hlt h hb
    have HYes:Hid (KeepR (K j)→∀ W,Below w.heap.size w W→KeptJ w W K (j+1)):=fun h W hb=>⟨fun i hi=>by
     by_cases e:i=j
     ·rw[e]; exact h
     ·exact hI.out.1 i (by omega),hb⟩
    have HB0:=hid_of hI.out.2
    obtain⟨x,hx⟩:∃ x,x=(K j).1:=⟨_,rfl⟩
    obtain⟨y,hy⟩:∃ y,y=(K j).2:=⟨_,rfl⟩
    have HK:Hid (KeepR (K j)↔(NameR x∧97≤byteAt x 0)∧¬ x=clearN∧y.size≤2600):=by
     rw[hx,hy]; exact Iff.rfl
    rw[← hx] at c0
    simp only [← hx] at hs
    rw[← hy] at c1 hz
    clear hx hy hc hI
    by_cases p1:NameR x∧97≤byteAt x 0
    ·simp only [decide_eq_true p1] at hs
     by_cases p2:x=clearN
     ·have e2:(x.toList == [116,82,78,83])=true:=by rw [← clearN_list]; exact text_is p2
      have HN:=hid_of (HNo.out fun h=>(HK.out.mp h).2.1 p2)
      clear p1 p2 HNo HYes HK
      go_wp2_with fail
      refine (hs _).mono ?_
      rintro e w1 ⟨rfl,rfl⟩
      go_wp2_with fail
      go_ret
      exact HN.out _ (bal HB0.out _)
     ·have e2:(x.toList == [116,82,78,83])=false:=by rw [← clearN_list]; exact text_not p2
      by_cases p3:y.size≤2600
      ·have d3:decide ((2600:Int) < (y.size:Int))=false:=decide_eq_false (by omega)
       have HY:=hid_of (HYes.out (HK.out.mpr ⟨p1,p2,p3⟩))
       clear p1 p2 p3 HNo HYes HK
       go_wp2_with fail
       refine (hs _).mono ?_
       rintro e w1 ⟨rfl,rfl⟩
       go_wp2_with fail
       go_roundw
       case rel=>exact⟨j+1,by omega,by go_num,HY.out _ (bal HB0.out _)⟩
       case measure=>simp [intOf]; omega
      ·have d3:decide ((2600:Int) < (y.size:Int))=true:=decide_eq_true (by omega)
       have HN:=hid_of (HNo.out fun h=>p3 (HK.out.mp h).2.2)
       clear p1 p2 p3 HNo HYes HK
       go_wp2_with fail
       refine (hs _).mono ?_
       rintro e w1 ⟨rfl,rfl⟩
       go_wp2_with fail
       go_ret
       exact HN.out _ (bal HB0.out _)
    ·simp only [decide_eq_false p1] at hs
     have HN:=hid_of (HNo.out fun h=>p1 (HK.out.mp h).1)
     clear p1 HNo HYes HK
     go_wp2_with fail
     refine (hs _).mono ?_
     rintro e w1 ⟨rfl,rfl⟩
     go_wp2_with fail
     go_ret
     exact HN.out _ (bal HB0.out _)
  ·obtain rfl:j=n:=by omega
   go_wp2_with fail
   go_ret
   exact⟨true,rfl,⟨fun _=>⟨H1.out,hI.out.1⟩,fun _=>rfl⟩,hI.out.2⟩
end Go.Proofs.YtkpbfmdnjnohlaaGreat
