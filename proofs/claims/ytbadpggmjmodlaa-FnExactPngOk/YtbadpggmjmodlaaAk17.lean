/-
  Texts of the proof, put together.
-/
import Derived.Test.YtbadpggmjmodlaaAk12
import Derived.Test.YtbadpggmjmodlaaAk16
namespace Go.Proofs.Ytbadpggmjmodlaa
section
open Go.RowKit Go.Joins OutMath RastMath HeadMath
set_option maxRecDepth 100000 in
set_option maxHeartbeats 1600000 in
theorem specClear_none (x y c:Int) (tn d:Nat) (l:Bool) (a:Option Addr) (cap:Nat) (w:World) (hd:d≤16):
  Calls Try.prog 27 #[.agg #[.int .i64 x,.int .i64 y,.int .i64 (d:Int),.int .i64 c,.bool l],.int .i64 (tn:Int),.slice a 0 cap] w fun e w'=>e=.returned (.bool true)∧Below w.heap.size w w':=by
 have HB:=hid_of (bstart w (.cells #[.int .i64 x,.int .i64 y,.int .i64 (d:Int),.int .i64 c,.bool l] 33))
 have HX:Hid ((w.alloc (.cells #[.int .i64 x,.int .i64 y,.int .i64 (d:Int),.int .i64 c,.bool l] 33)).heap[w.heap.size]?=some (.cells #[.int .i64 x,.int .i64 y,.int .i64 (d:Int),.int .i64 c,.bool l] 33 (0,0))):=heap_alloc_new w _
 have hdp:=fun W=>specDepth17 x y c d l W hd
 have hpw:=fun W=>pow_any d W (by omega)
 have hpp:=p2_pos d
 have hp16:p2 d≤65536:=by
  have:=p2_le (show d≤16 by omega)
  rw[show p2 16=65536 by decide +kernel] at this
  exact this
 generalize p2 d=P at hpw hpp hp16
 have wp:IntKind.i64.wrap (P - 1)=P - 1:=by rw [IntKind.wrap_i64]; omega
 by_cases h0:c=0
 ·subst h0
  go_enter Try.func27,Try.ntmps27
  go_wp2_with fail
  generalize w.alloc (.cells #[.int .i64 x,.int .i64 y,.int .i64 (d:Int),.int .i64 0,.bool l] 33)=W1 at HX HB ⊢
  refine (hdp W1).mono ?_
  rintro e w1 ⟨rfl,hB1⟩
  have HX1:=hid_of ((hB1.block _ (block_lt HX.out)).trans HX.out)
  have HB1:=hid_of (bnext HB.out hB1)
  clear hB1 HX HB hdp
  go_wp2_with fail
  refine (hpw w1).mono ?_
  rintro e w2 ⟨rfl,rfl⟩
  go_wp2_with fail
  go_ret
  exact⟨rfl,HB1.out⟩
 by_cases h2:c=2
 ·subst h2
  go_enter Try.func27,Try.ntmps27
  go_wp2_with fail
  generalize w.alloc (.cells #[.int .i64 x,.int .i64 y,.int .i64 (d:Int),.int .i64 2,.bool l] 33)=W1 at HX HB ⊢
  refine (hdp W1).mono ?_
  rintro e w1 ⟨rfl,hB1⟩
  have HX1:=hid_of ((hB1.block _ (block_lt HX.out)).trans HX.out)
  have HB1:=hid_of (bnext HB.out hB1)
  clear hB1 HX HB hdp
  go_wp2_with fail
  refine (hpw w1).mono ?_
  rintro e w2 ⟨rfl,rfl⟩
  go_wp2_with fail
  go_ret
  exact⟨rfl,HB1.out⟩
 by_cases h3:c=3
 ·subst h3
  have dt:decide ((tn:Int) < 0)=false:=decide_eq_false (by omega)
  clear hdp hpw hpp hp16 wp
  go_enter Try.func27,Try.ntmps27
  go_wp2_with fail
  go_ret
  exact⟨rfl,HB.out⟩
 ·have c0:(c == 0)=false:=by simp only [beq_eq_false_iff_ne,ne_eq]; exact h0
  have c2:(c == 2)=false:=by simp only [beq_eq_false_iff_ne,ne_eq]; exact h2
  have c3:(c == 3)=false:=by simp only [beq_eq_false_iff_ne,ne_eq]; exact h3
  clear hdp hpw hpp hp16 wp h0 h2 h3
  go_enter Try.func27,Try.ntmps27
  go_wp2_with fail
  go_ret
  exact⟨rfl,HB.out⟩
set_option maxRecDepth 100000 in
set_option maxHeartbeats 1600000 in
theorem implClear_none (x y c:Int) (tn d:Nat) (l:Bool) (a:Option Addr) (cap:Nat) (w:World):
  Calls Try.prog 41 #[.agg #[.int .i64 x,.int .i64 y,.int .i64 (d:Int),.int .i64 c,.bool l],.int .i64 (tn:Int),.slice a 0 cap] w fun e w'=>e=.returned (.bool true)∧Below w.heap.size w w':=by
 have HB:=hid_of (bstart w (.cells #[.int .i64 x,.int .i64 y,.int .i64 (d:Int),.int .i64 c,.bool l] 33))
 go_enter Try.func41,Try.ntmps41
 go_wp2_with fail
 go_ret
 exact⟨rfl,HB.out⟩
def ClrnPost (d c:Int) (tn cn:Nat) (C:Nat→Int) (w:World) (e:Ending) (w':World):Prop:=∃ b,e=.returned (.bool b)∧(b=true↔ClrR d c tn cn C)∧Below w.heap.size w w'
theorem specClr (x y c:Int) (tn:Nat) (d:Nat) (l:Bool) (a:Option Addr) (n cap:Nat) (C:Nat→Int) (w:World) (hC:Came w a n C) (hn:n≤1048576) (hd:d≤16):
  Calls Try.prog 27 #[.agg #[.int .i64 x,.int .i64 y,.int .i64 (d:Int),.int .i64 c,.bool l],.int .i64 (tn:Int),.slice a n cap] w (ClrnPost (d:Int) c tn n C w):=by
 rcases Nat.eq_zero_or_pos n with rfl | h1
 ·exact (specClear_none x y c tn d l a cap w hd).mono fun e w' ⟨h,b⟩=>⟨true,h,⟨fun _=>.inl rfl,fun _=>rfl⟩,b⟩
 ·exact (specClearOk x y c tn d l a n cap C w hC hn h1 hd).mono fun e w' ⟨b,h,k,bel⟩=>⟨b,h,k.trans ⟨.inr,fun q=>q.resolve_left (by omega)⟩,bel⟩
theorem implClr (x y c:Int) (tn:Nat) (d:Nat) (l:Bool) (a:Option Addr) (n cap:Nat) (C:Nat→Int) (w:World) (hC:Came w a n C) (hn:n≤1048576) (hd:d≤16):
  Calls Try.prog 41 #[.agg #[.int .i64 x,.int .i64 y,.int .i64 (d:Int),.int .i64 c,.bool l],.int .i64 (tn:Int),.slice a n cap] w (ClrnPost (d:Int) c tn n C w):=by
 rcases Nat.eq_zero_or_pos n with rfl | h1
 ·exact (implClear_none x y c tn d l a cap w).mono fun e w' ⟨h,b⟩=>⟨true,h,⟨fun _=>.inl rfl,fun _=>rfl⟩,b⟩
 ·exact (implClearOk x y c tn d l a n cap C w hC hn h1 hd).mono fun e w' ⟨b,h,k,bel⟩=>⟨b,h,k.trans ⟨.inr,fun q=>q.resolve_left (by omega)⟩,bel⟩
end
section
open Go.RowKit Go.Joins OutMath ChunkMath CrcMath
theorem specLetter_yes (b:Int) (w:World) (h:65≤b∧b≤90∨97≤b∧b≤122):
  Calls Try.prog 98 #[.int .u8 b] w fun e w'=>e=.returned (.bool true)∧w'=w:=by
 rcases h with ⟨h1,h2⟩ | ⟨h1,h2⟩
 ·go_enter Try.func98,Try.ntmps98
  go_wp2_with fail
  go_ret
  exact⟨rfl,rfl⟩
 ·have h3:¬ b≤90:=by omega
  have h4:65≤b:=by omega
  go_enter Try.func98,Try.ntmps98
  go_wp2_with fail
  go_ret
  exact⟨rfl,rfl⟩
theorem specLetter_no (b:Int) (w:World) (h:¬ (65≤b∧b≤90∨97≤b∧b≤122)):
  Calls Try.prog 98 #[.int .u8 b] w fun e w'=>e=.returned (.bool false)∧w'=w:=by
 by_cases h1:65≤b
 ·have h2:¬ b≤90:=by omega
  by_cases h3:97≤b
  ·have h4:¬ b≤122:=by omega
   clear h
   go_enter Try.func98,Try.ntmps98
   go_wp2_with fail
   go_ret
   exact⟨rfl,rfl⟩
  ·clear h
   go_enter Try.func98,Try.ntmps98
   go_wp2_with fail
   go_ret
   exact⟨rfl,rfl⟩
 ·have h3:¬ 97≤b:=by omega
  clear h
  go_enter Try.func98,Try.ntmps98
  go_wp2_with fail
  go_ret
  exact⟨rfl,rfl⟩
theorem let_in (n:ByteArray) (i:Nat) (hi:i < n.size):LetterR (byteAt n i)↔(65≤((n[i]'hi).toNat:Int)∧((n[i]'hi).toNat:Int)≤90∨97≤((n[i]'hi).toNat:Int)∧((n[i]'hi).toNat:Int)≤122):=by
 rw[← byteAt_get n i hi]
 omega
set_option maxHeartbeats 800000 in
theorem specName_yes (n:ByteArray) (w:World) (h:NameR n):
  Calls Try.prog 87 #[.string n] w fun e w'=>e=.returned (.bool true)∧w'=w:=by
 obtain⟨hs,h0,h1,h2,h3,h4⟩:=h
 have l0:0 < n.size:=by omega
 have l1:1 < n.size:=by omega
 have l2:2 < n.size:=by omega
 have l3:3 < n.size:=by omega
 have e0:((n.size:Int) == 4)=true:=beq_iff_eq.2 (by omega)
 have H0:=hid_of ((let_in n 0 l0).1 h0)
 have H1:=hid_of ((let_in n 1 l1).1 h1)
 have H2:=hid_of ((let_in n 2 l2).1 h2)
 have H3:=hid_of ((let_in n 3 l3).1 h3)
 have h5:((n[2]'l2).toNat:Int)≤90:=by rw [byteAt_get n 2 l2]; omega
 clear h0 h1 h2 h3 h4
 go_enter Try.func87,Try.ntmps87
 go_wp2_with fail
 refine (specLetter_yes _ _ H0.out).mono ?_
 rintro e w1 ⟨rfl,rfl⟩
 go_wp2_with fail
 refine (specLetter_yes _ _ H1.out).mono ?_
 rintro e w1 ⟨rfl,rfl⟩
 go_wp2_with fail
 refine (specLetter_yes _ _ H2.out).mono ?_
 rintro e w1 ⟨rfl,rfl⟩
 go_wp2_with fail
 refine (specLetter_yes _ _ H3.out).mono ?_
 rintro e w1 ⟨rfl,rfl⟩
 go_wp2_with fail
 go_ret
 exact⟨rfl,rfl⟩
set_option maxHeartbeats 1600000 in
theorem specName_no (n:ByteArray) (w:World) (h:¬ NameR n):
  Calls Try.prog 87 #[.string n] w fun e w'=>e=.returned (.bool false)∧w'=w:=by
 by_cases hs:n.size=4
 ·have e0:((n.size:Int) == 4)=true:=beq_iff_eq.2 (by omega)
  have l0:0 < n.size:=by omega
  have l1:1 < n.size:=by omega
  have l2:2 < n.size:=by omega
  have l3:3 < n.size:=by omega
  by_cases h0:LetterR (byteAt n 0)
  ·have H0:=hid_of ((let_in n 0 l0).1 h0)
   by_cases h1:LetterR (byteAt n 1)
   ·have H1:=hid_of ((let_in n 1 l1).1 h1)
    by_cases h2:LetterR (byteAt n 2)
    ·have H2:=hid_of ((let_in n 2 l2).1 h2)
     by_cases h3:LetterR (byteAt n 3)
     ·have H3:=hid_of ((let_in n 3 l3).1 h3)
      have h5:decide (((n[2]'l2).toNat:Int)≤90)=false:=decide_eq_false fun q=>h ⟨hs,h0,h1,h2,h3,by rw [byteAt_get n 2 l2] at q; omega⟩
      clear h h0 h1 h2 h3
      go_enter Try.func87,Try.ntmps87
      go_wp2_with fail
      refine (specLetter_yes _ _ H0.out).mono ?_
      rintro e w1 ⟨rfl,rfl⟩
      go_wp2_with fail
      refine (specLetter_yes _ _ H1.out).mono ?_
      rintro e w1 ⟨rfl,rfl⟩
      go_wp2_with fail
      refine (specLetter_yes _ _ H2.out).mono ?_
      rintro e w1 ⟨rfl,rfl⟩
      go_wp2_with fail
      refine (specLetter_yes _ _ H3.out).mono ?_
      rintro e w1 ⟨rfl,rfl⟩
      go_wp2_with fail
      go_ret
      exact⟨rfl,rfl⟩
     ·have H3:=hid_of (fun q=>h3 ((let_in n 3 l3).2 q))
      clear h h3 h0 h1 h2
      go_enter Try.func87,Try.ntmps87
      go_wp2_with fail
      refine (specLetter_yes _ _ H0.out).mono ?_
      rintro e w1 ⟨rfl,rfl⟩
      go_wp2_with fail
      refine (specLetter_yes _ _ H1.out).mono ?_
      rintro e w1 ⟨rfl,rfl⟩
      go_wp2_with fail
      refine (specLetter_yes _ _ H2.out).mono ?_
      rintro e w1 ⟨rfl,rfl⟩
      go_wp2_with fail
      refine (specLetter_no _ _ H3.out).mono ?_
      rintro e w1 ⟨rfl,rfl⟩
      go_wp2_with fail
      go_ret
      exact⟨rfl,rfl⟩
    ·have H2:=hid_of (fun q=>h2 ((let_in n 2 l2).2 q))
     clear h h2 h0 h1
     go_enter Try.func87,Try.ntmps87
     go_wp2_with fail
     refine (specLetter_yes _ _ H0.out).mono ?_
     rintro e w1 ⟨rfl,rfl⟩
     go_wp2_with fail
     refine (specLetter_yes _ _ H1.out).mono ?_
     rintro e w1 ⟨rfl,rfl⟩
     go_wp2_with fail
     refine (specLetter_no _ _ H2.out).mono ?_
     rintro e w1 ⟨rfl,rfl⟩
     go_wp2_with fail
     go_ret
     exact⟨rfl,rfl⟩
   ·have H1:=hid_of (fun q=>h1 ((let_in n 1 l1).2 q))
    clear h h1 h0
    go_enter Try.func87,Try.ntmps87
    go_wp2_with fail
    refine (specLetter_yes _ _ H0.out).mono ?_
    rintro e w1 ⟨rfl,rfl⟩
    go_wp2_with fail
    refine (specLetter_no _ _ H1.out).mono ?_
    rintro e w1 ⟨rfl,rfl⟩
    go_wp2_with fail
    go_ret
    exact⟨rfl,rfl⟩
  ·have H0:=hid_of (fun q=>h0 ((let_in n 0 l0).2 q))
   clear h h0 
   go_enter Try.func87,Try.ntmps87
   go_wp2_with fail
   refine (specLetter_no _ _ H0.out).mono ?_
   rintro e w1 ⟨rfl,rfl⟩
   go_wp2_with fail
   go_ret
   exact⟨rfl,rfl⟩
 ·have e0:((n.size:Int) == 4)=false:=beq_eq_false_iff_ne.2 (by omega)
  clear h
  go_enter Try.func87,Try.ntmps87
  go_wp2_with fail
  go_ret
  exact⟨rfl,rfl⟩
end
section
open Go.RowKit Go.Joins OutMath ChunkMath CrcMath
theorem specNeedless (n:ByteArray) (w:World):
  Calls Try.prog 67 #[.string n] w fun e w'=>e=.returned (.bool (decide (NameR n∧97≤byteAt n 0)))∧w'=w:=by
 by_cases h:NameR n
 ·have l0:0 < n.size:=by have:=h.1; omega
  by_cases h1:97≤byteAt n 0
  ·rw[decide_eq_true ⟨h,h1⟩]
   have HN:=hid_of h
   have h2:decide ((97:Int)≤((n[0]'l0).toNat:Int))=true:=decide_eq_true <| by rw [byteAt_get n 0 l0]; omega
   clear h h1
   go_enter Try.func67,Try.ntmps67
   go_wp2_with fail
   refine (specName_yes _ _ HN.out).mono ?_
   rintro e w1 ⟨rfl,rfl⟩
   go_wp2_with fail
   go_ret
   exact⟨rfl,rfl⟩
  ·rw[decide_eq_false (fun q=>h1 q.2)]
   have HN:=hid_of h
   have h2:decide ((97:Int)≤((n[0]'l0).toNat:Int))=false:=decide_eq_false <| by rw [byteAt_get n 0 l0]; omega
   clear h h1
   go_enter Try.func67,Try.ntmps67
   go_wp2_with fail
   refine (specName_yes _ _ HN.out).mono ?_
   rintro e w1 ⟨rfl,rfl⟩
   go_wp2_with fail
   go_ret
   exact⟨rfl,rfl⟩
 ·rw[decide_eq_false (fun q=>h q.1)]
  have HN:=hid_of h
  clear h
  go_enter Try.func67,Try.ntmps67
  go_wp2_with fail
  refine (specName_no _ _ HN.out).mono ?_
  rintro e w1 ⟨rfl,rfl⟩
  go_wp2_with fail
  go_ret
  exact⟨rfl,rfl⟩
end
section
open Go.RowKit Go.Joins ChunkMath CrcMath
open scoped Classical
theorem text_is {a b:ByteArray} (h:a=b):(a.toList == b.toList)=true:=by rw [h]; exact beq_self_eq_true _
theorem text_not {a b:ByteArray} (h:¬ a=b):(a.toList == b.toList)=false:=by
 rw[ByteArray.toList_eq,ByteArray.toList_eq,beq_eq_false_iff_ne]
 exact fun e=>h (ChunkMath.bx_ext e)
def KeptPost (n:Nat) (K:Nat→Chk) (w:World) (e:Ending) (w':World):Prop:=∃ b,e=.returned (.bool b)∧(b=true↔KeptR n K)∧w'=w
theorem kept_no {n j:Nat} {K:Nat→Chk} {w:World} (hj:j < n) (h:¬ KeepR (K j)):KeptPost n K w (.returned (.bool false)) w:=⟨false,rfl,⟨fun e=>(by cases e),fun k=>absurd (k.2 j hj) h⟩,rfl⟩
def KeptI (w wr:World) (K:Nat→Chk) (j:Nat):Prop:=(∀ i,i < j→KeepR (K i))∧wr=w
theorem clearN_list:clearN.toList=[116,82,78,83]:=by rw [ByteArray.toList_eq]; rfl
set_option maxRecDepth 100000 in
set_option maxHeartbeats 1600000 in
theorem specKept (a:Option Addr) (n c:Nat) (K:Nat→Chk) (w:World) (hC:KCame w a n K) (hn:n≤1048576) (hm:∀ i,i < n→(K i).2.size≤1048576):
  Calls Try.prog 28 #[.slice a n c] w (KeptPost n K w):=by
 by_cases h1:n≤32
 case neg=>
  have HN:Hid (KeptPost n K w (.returned (.bool false)) w):=⟨false,rfl,⟨fun e=>(by cases e),fun k=>absurd k.1 h1⟩,rfl⟩
  have d1:decide ((32:Int) < (n:Int))=true:=decide_eq_true (by omega)
  clear h1 hm hC
  go_enter Try.func28,Try.ntmps28
  go_wp2_with fail
  go_ret
  exact HN.out
 have d1:decide ((32:Int) < (n:Int))=false:=decide_eq_false (by omega)
 have HC:=hid_of hC
 have HM:=hid_of hm
 have H1:=hid_of h1
 clear hC hm h1
 go_enter Try.func28,Try.ntmps28
 go_wp2_with fail
 go_loopw [3] (fun i w'=>∃ j:Nat,j≤n∧i=.int .i64 j∧Hid (KeptI w w' K j)) (fun i _=>n - (intOf i).toNat)
 case atStart=>exact⟨0,Nat.zero_le _,rfl,fun i hi=>absurd hi (Nat.not_lt_zero i),rfl⟩
 case round=>
  obtain⟨j,hj,rfl,hI⟩:=hrel
  have ew:wr=w:=hI.out.2
  subst ew
  by_cases hlt:j < n
  ·rcases HC.out with h0 | ⟨g,off,rfl,hg,hc⟩
   ·omega
   ·have c0:=(hc j hlt).1
    have c1:=(hc j hlt).2
    have hs:=specNeedless (K j).1 wr
    have hz:=HM.out j hlt
    have HNo:Hid (¬ KeepR (K j)→KeptPost n K wr (.returned (.bool false)) wr):=fun h=>kept_no hlt h
    have HYes:Hid (KeepR (K j)→KeptI wr wr K (j+1)):=fun h=>⟨fun i hi=>by
     by_cases e:i=j
     ·rw[e]; exact h
     ·exact hI.out.1 i (by omega),rfl⟩
    obtain⟨x,hx⟩:∃ x,x=(K j).1:=⟨_,rfl⟩
    obtain⟨y,hy⟩:∃ y,y=(K j).2:=⟨_,rfl⟩
    have HK:Hid (KeepR (K j)↔(NameR x∧97≤byteAt x 0)∧¬ x=clearN∧y.size≤2600):=by
     rw[hx,hy]; exact Iff.rfl
    rw[← hx] at c0 hs
    rw[← hy] at c1 hz
    clear hx hy hc hI
    by_cases p1:NameR x∧97≤byteAt x 0
    ·rw[decide_eq_true p1] at hs
     by_cases p2:x=clearN
     ·have e2:(x.toList == [116,82,78,83])=true:=by rw [← clearN_list]; exact text_is p2
      have HN:=hid_of (HNo.out fun h=>(HK.out.mp h).2.1 p2)
      clear p1 p2 HNo HYes HK
      go_wp2_with fail
      refine hs.mono ?_
      rintro e w1 ⟨rfl,rfl⟩
      go_wp2_with fail
      go_ret
      exact HN.out
     ·have e2:(x.toList == [116,82,78,83])=false:=by rw [← clearN_list]; exact text_not p2
      by_cases p3:y.size≤2600
      ·have d3:decide ((2600:Int) < (y.size:Int))=false:=decide_eq_false (by omega)
       have HY:=hid_of (HYes.out (HK.out.mpr ⟨p1,p2,p3⟩))
       clear p1 p2 p3 HNo HYes HK
       go_wp2_with fail
       refine hs.mono ?_
       rintro e w1 ⟨rfl,rfl⟩
       go_wp2_with fail
       go_roundw
       case rel=>exact⟨j+1,by omega,by go_num,HY⟩
       case measure=>simp [intOf]; omega
      ·have d3:decide ((2600:Int) < (y.size:Int))=true:=decide_eq_true (by omega)
       have HN:=hid_of (HNo.out fun h=>p3 (HK.out.mp h).2.2)
       clear p1 p2 p3 HNo HYes HK
       go_wp2_with fail
       refine hs.mono ?_
       rintro e w1 ⟨rfl,rfl⟩
       go_wp2_with fail
       go_ret
       exact HN.out
    ·rw[decide_eq_false p1] at hs
     have HN:=hid_of (HNo.out fun h=>p1 (HK.out.mp h).1)
     clear p1 HNo HYes HK
     go_wp2_with fail
     refine hs.mono ?_
     rintro e w1 ⟨rfl,rfl⟩
     go_wp2_with fail
     go_ret
     exact HN.out
  ·obtain rfl:j=n:=by omega
   go_wp2_with fail
   go_ret
   exact⟨true,rfl,⟨fun _=>⟨H1.out,hI.out.1⟩,fun _=>rfl⟩,rfl⟩
end
end Go.Proofs.Ytbadpggmjmodlaa
