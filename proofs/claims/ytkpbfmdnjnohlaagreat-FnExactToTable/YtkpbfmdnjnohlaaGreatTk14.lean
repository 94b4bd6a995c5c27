/-
  Texts of the proof, put together.
-/
import Derived.Test.YtkpbfmdnjnohlaaGreatTk02
import Derived.Test.YtkpbfmdnjnohlaaGreatTk13
namespace Go.Proofs.YtkpbfmdnjnohlaaGreat
open Go.RowKit Go.Joins ChunkMath CrcMath
open scoped Classical
theorem text_is {a b:ByteArray} (h:a=b):(a.toList == b.toList)=true:=by rw [h]; exact beq_self_eq_true _
theorem text_not {a b:ByteArray} (h:¬ a=b):(a.toList == b.toList)=false:=by
 rw[ByteArray.toList_eq,ByteArray.toList_eq,beq_eq_false_iff_ne]
 exact fun e=>h (ChunkMath.bx_ext e)
def KeptPost (n:Nat) (K:Nat→Chk) (w:World) (e:Ending) (w':World):Prop:=∃ b,e=.returned (.bool b)∧(b=true↔KeptR n K)∧w'=w
theorem kept_no {n j:Nat} {K:Nat→Chk} {w:World} (hj:j < n) (h:¬ KeepR (K j)):KeptPost n K w (.returned (.bool false)) w:=⟨false,rfl,⟨fun e=>(by cases e),fun k=>absurd (k.2 j hj) h⟩,rfl⟩
def KeptI (w wr:World) (K:Nat→Chk) (j:Nat):Prop:=(∀ i,i < j→KeepR (K i))∧wr=w
theorem clearN_list:clearN.toList=[116,82,78,83]:=by rw [ByteArray.toList_eq]; rfl
set_option maxRecDepth 100000 in
set_option maxHeartbeats 1600000 in
theorem specKept (a:Option Addr) (n c:Nat) (K:Nat→Chk) (w:World) (hC:KCame w a n K) (hn:n≤1048576) (hm:∀ i,i < n→(K i).2.size≤1048576):
  Calls Tryz.prog 94 #[.slice a n c] w (KeptPost n K w):=by
 by_cases h1:n≤32
 case neg=>
  have HN:Hid (KeptPost n K w (.returned (.bool false)) w):=⟨false,rfl,⟨fun e=>(by cases e),fun k=>absurd k.1 h1⟩,rfl⟩
  have d1:decide ((32:Int) < (n:Int))=true:=decide_eq_true (by omega)
  clear h1 hm hC
  go_enter Tryz.func94,Tryz.ntmps94
  go_wp2_with fail
  go_ret
  exact HN.out
 have d1:decide ((32:Int) < (n:Int))=false:=decide_eq_false (by omega)
 have HC:=hid_of hC
 have HM:=hid_of hm
 have H1:=hid_of h1
 clear hC hm h1
 go_enter Tryz.func94,Tryz.ntmps94
 go_wp2_with fail
 go_loopw [3] (fun i w'=>∃ j:Nat,j≤n∧i=.int .i64 j∧Hid (KeptI w w' K j)) (fun i _=>n - (intOf i).toNat)
 case atStart=>exact⟨0,Nat.zero_le _,rfl,fun i hi=>absurd hi (Nat.not_lt_zero i),rfl⟩
 case round=>
  obtain⟨j,hj,rfl,hI⟩:=hrel
  have ew:wr=w:=hI.out.2
  subst ew
  by_cases hlt:j < n
  ·rcases HC.out with h0 | ⟨g,off,rfl,hg,hc⟩
   ·omega
   ·have c0:=(hc j hlt).1
    have c1:=(hc j hlt).2
    have hs:=specNeedless (K j).1 wr
    have hz:=HM.out j hlt
    have HNo:Hid (¬ KeepR (K j)→KeptPost n K wr (.returned (.bool false)) wr):=fun h=>kept_no hlt h
    have HYes:Hid (KeepR (K j)→KeptI wr wr K (j+1)):=fun h=>⟨fun i hi=>by
     by_cases e:i=j
     ·rw[e]; exact h
     ·exact hI.out.1 i (by omega),rfl⟩
    obtain⟨x,hx⟩:∃ x,x=(K j).1:=⟨_,rfl⟩
    obtain⟨y,hy⟩:∃ y,y=(K j).2:=⟨_,rfl⟩
    have HK:Hid (KeepR (K j)↔(NameR x∧97≤byteAt x 0)∧¬ x=clearN∧y.size≤2600):=by
     rw[hx,hy]; exact Iff.rfl
    rw[← hx] at c0 hs
    rw[← hy] at c1 hz
    clear hx hy hc hI
    by_cases p1:NameR x∧97≤byteAt x 0
    ·rw[decide_eq_true p1] at hs
     by_cases p2:x=clearN
     ·have e2:(x.toList == [116,82,78,83])=true:=by rw [← clearN_list]; exact text_is p2
      have HN:=hid_of (HNo.out fun h=>(HK.out.mp h).2.1 p2)
      clear p1 p2 HNo HYes HK
      go_wp2_with fail
      refine hs.mono ?_
      rintro e w1 ⟨rfl,rfl⟩
      go_wp2_with fail
      go_ret
      exact HN.out
     ·have e2:(x.toList == [116,82,78,83])=false:=by rw [← clearN_list]; exact text_not p2
      by_cases p3:y.size≤2600
      ·have d3:decide ((2600:Int) < (y.size:Int))=false:=decide_eq_false (by omega)
       have HY:=hid_of (HYes.out (HK.out.mpr ⟨p1,p2,p3⟩))
       clear p1 p2 p3 HNo HYes HK
       go_wp2_with fail
       refine hs.mono ?_
       rintro e w1 ⟨rfl,rfl⟩
       go_wp2_with fail
       go_roundw
       case rel=>exact⟨j+1,by omega,by go_num,HY⟩
       case measure=>simp [intOf]; omega
      ·have d3:decide ((2600:Int) < (y.size:Int))=true:=decide_eq_true (by omega)
       have HN:=hid_of (HNo.out fun h=>p3 (HK.out.mp h).2.2)
       clear p1 p2 p3 HNo HYes HK
       go_wp2_with fail
       refine hs.mono ?_
       rintro e w1 ⟨rfl,rfl⟩
       go_wp2_with fail
       go_ret
       exact HN.out
    ·rw[decide_eq_false p1] at hs
     have HN:=hid_of (HNo.out fun h=>p1 (HK.out.mp h).1)
     clear p1 HNo HYes HK
     go_wp2_with fail
     refine hs.mono ?_
     rintro e w1 ⟨rfl,rfl⟩
     go_wp2_with fail
     go_ret
     exact HN.out
  ·obtain rfl:j=n:=by omega
   go_wp2_with fail
   go_ret
   exact⟨true,rfl,⟨fun _=>⟨H1.out,hI.out.1⟩,fun _=>rfl⟩,rfl⟩
end Go.Proofs.YtkpbfmdnjnohlaaGreat
