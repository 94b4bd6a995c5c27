/-
  Texts of the proof, put together.
-/
import Derived.Test.YtbadpggmjmodlaaAk17
namespace Go.Proofs.Ytbadpggmjmodlaa
section
open Go.RowKit Go.Joins RastMath
set_option maxHeartbeats 1600000 in
theorem hasShape_any (x0 x1 x2 x3 y0 y1 y2 y3:Int) (u v:Value) (w:World):
  Calls Try.prog 38 #[.agg #[.int .i64 x0,.int .i64 x1,.int .i64 x2,.int .i64 x3,u],.agg #[.int .i64 y0,.int .i64 y1,.int .i64 y2,.int .i64 y3,v]] w fun e w'=>e=.returned (.bool (decide (x0=y0∧x1=y1∧x2=y2∧x3=y3)))∧Below w.heap.size w w':=by
 have HB:=hid_of (bal (bstart w (.cells #[.int .i64 x0,.int .i64 x1,.int .i64 x2,.int .i64 x3,u] 35)) (.cells #[.int .i64 y0,.int .i64 y1,.int .i64 y2,.int .i64 y3,v] 35))
 obtain⟨b,hb⟩:∃ b,b=decide (x0=y0∧x1=y1∧x2=y2∧x3=y3):=⟨_,rfl⟩
 rw[← hb]
 by_cases h0:x0=y0
 ·have e0:(x0 == y0)=true:=by simpa using h0
  by_cases h1:x1=y1
  ·have e1:(x1 == y1)=true:=by simpa using h1
   by_cases h2:x2=y2
   ·have e2:(x2 == y2)=true:=by simpa using h2
    obtain rfl:b=decide (x3=y3):=by rw [hb]; exact decide_eq_decide.mpr ⟨fun h=>h.2.2.2,fun h=>⟨h0,h1,h2,h⟩⟩
    clear hb h0 h1 h2
    by_cases h3:x3=y3
    ·have e3:(x3 == y3)=true:=by simpa using h3
     rw[decide_eq_true h3]
     clear h3
     go_enter Try.func38,Try.ntmps38
     go_wp2_with fail
     go_ret
     exact⟨rfl,HB.out⟩
    ·have e3:(x3 == y3)=false:=by simpa using h3
     rw[decide_eq_false h3]
     clear h3
     go_enter Try.func38,Try.ntmps38
     go_wp2_with fail
     go_ret
     exact⟨rfl,HB.out⟩
   ·have e2:(x2 == y2)=false:=by simpa using h2
    obtain rfl:b=false:=by rw [hb]; exact decide_eq_false fun h=>h2 h.2.2.1
    clear hb h0 h1 h2
    go_enter Try.func38,Try.ntmps38
    go_wp2_with fail
    go_ret
    exact⟨rfl,HB.out⟩
  ·have e1:(x1 == y1)=false:=by simpa using h1
   obtain rfl:b=false:=by rw [hb]; exact decide_eq_false fun h=>h1 h.2.1
   clear hb h0 h1
   go_enter Try.func38,Try.ntmps38
   go_wp2_with fail
   go_ret
   exact⟨rfl,HB.out⟩
 ·have e0:(x0 == y0)=false:=by simpa using h0
  obtain rfl:b=false:=by rw [hb]; exact decide_eq_false fun h=>h0 h.1
  clear hb h0
  go_enter Try.func38,Try.ntmps38
  go_wp2_with fail
  go_ret
  exact⟨rfl,HB.out⟩
end
section
open Go.RowKit Go.Joins OutMath ChunkMath CrcMath
theorem impl_isUpper (b:Int) (w:World):
  Calls Try.prog 100 #[.int .u8 b] w fun e w'=>e=.returned (.bool (decide (65≤b∧b≤90)))∧w'=w:=by
 by_cases h1:65≤b
 ·by_cases h2:b≤90
  ·rw[decide_eq_true ⟨h1,h2⟩]
   go_enter Try.func100,Try.ntmps100
   go_wp2_with fail
   go_ret
   exact⟨rfl,rfl⟩
  ·rw[decide_eq_false (fun q=>h2 q.2)]
   go_enter Try.func100,Try.ntmps100
   go_wp2_with fail
   go_ret
   exact⟨rfl,rfl⟩
 ·rw[decide_eq_false (fun q=>h1 q.1)]
  go_enter Try.func100,Try.ntmps100
  go_wp2_with fail
  go_ret
  exact⟨rfl,rfl⟩
theorem impl_isLower (b:Int) (w:World):
  Calls Try.prog 93 #[.int .u8 b] w fun e w'=>e=.returned (.bool (decide (97≤b∧b≤122)))∧w'=w:=by
 by_cases h1:97≤b
 ·by_cases h2:b≤122
  ·rw[decide_eq_true ⟨h1,h2⟩]
   go_enter Try.func93,Try.ntmps93
   go_wp2_with fail
   go_ret
   exact⟨rfl,rfl⟩
  ·rw[decide_eq_false (fun q=>h2 q.2)]
   go_enter Try.func93,Try.ntmps93
   go_wp2_with fail
   go_ret
   exact⟨rfl,rfl⟩
 ·rw[decide_eq_false (fun q=>h1 q.1)]
  go_enter Try.func93,Try.ntmps93
  go_wp2_with fail
  go_ret
  exact⟨rfl,rfl⟩
theorem upper_at (n:ByteArray) (i:Nat) (hi:i < n.size) (t:Bool) (h:decide (65≤byteAt n i∧byteAt n i≤90)=t):decide (65≤((n[i]'hi).toNat:Int)∧((n[i]'hi).toNat:Int)≤90)=t:=by
 rw[← h,byteAt_get n i hi]
 exact decide_eq_decide.2 (by omega)
theorem lower_at (n:ByteArray) (i:Nat) (hi:i < n.size) (t:Bool) (h:decide (97≤byteAt n i∧byteAt n i≤122)=t):decide (97≤((n[i]'hi).toNat:Int)∧((n[i]'hi).toNat:Int)≤122)=t:=by
 rw[← h,byteAt_get n i hi]
 exact decide_eq_decide.2 (by omega)
set_option maxHeartbeats 1600000 in
theorem implName_t (n:ByteArray) (t:Bool) (ht:t=decide (NameR n)) (w:World):
  Calls Try.prog 92 #[.string n] w fun e w'=>e=.returned (.bool t)∧w'=w:=by
 have HT:=hid_of ht
 clear ht
 by_cases hs:n.size=4
 ·have e0:((n.size:Int) == 4)=true:=beq_iff_eq.2 (by omega)
  go_enter Try.func92,Try.ntmps92
  go_wp2_with fail
  go_loop [9] (fun i=>∃ j:Nat,j≤n.size∧i=.int .i64 j∧Hid (∀ i,i < j→LetterR (byteAt n i))) (fun i=>n.size - (intOf i).toNat)
  case atStart=>exact⟨0,Nat.zero_le _,rfl,fun i hi=>absurd hi (Nat.not_lt_zero i)⟩
  case round=>
   obtain⟨j,hj,rfl,hok⟩:=hrel
   by_cases hlt:j < n.size
   ·by_cases hu:65≤byteAt n j∧byteAt n j≤90
    ·have HU:=hid_of (upper_at n j hlt true (decide_eq_true hu))
     have HN:Hid (∀ i,i < j+1→LetterR (byteAt n i)):=fun i hi=>by
      by_cases e:i=j
      ·rw[e]; exact .inl hu
      ·exact hok.out i (by omega)
     clear hu
     go_wp2_with fail
     refine (impl_isUpper _ _).mono ?_
     rintro e w1 ⟨rfl,rfl⟩
     rw[HU.out]
     go_wp2_with fail
     go_round
     case rel=>exact⟨j+1,by omega,by go_num,HN⟩
     case measure=>simp [intOf]; omega
    ·have HU:=hid_of (upper_at n j hlt false (decide_eq_false hu))
     by_cases hl:97≤byteAt n j∧byteAt n j≤122
     ·have HL:=hid_of (lower_at n j hlt true (decide_eq_true hl))
      have HN:Hid (∀ i,i < j+1→LetterR (byteAt n i)):=fun i hi=>by
       by_cases e:i=j
       ·rw[e]; exact .inr hl
       ·exact hok.out i (by omega)
      clear hu hl
      go_wp2_with fail
      refine (impl_isUpper _ _).mono ?_
      rintro e w1 ⟨rfl,rfl⟩
      rw[HU.out]
      go_wp2_with fail
      refine (impl_isLower _ _).mono ?_
      rintro e w1 ⟨rfl,rfl⟩
      rw[HL.out]
      go_wp2_with fail
      go_round
      case rel=>exact⟨j+1,by omega,by go_num,HN⟩
      case measure=>simp [intOf]; omega
     ·have HL:=hid_of (lower_at n j hlt false (decide_eq_false hl))
      have HD:Hid (t=false):=HT.out.trans <| decide_eq_false (fun q=>by
       have hx:LetterR (byteAt n j):=by
        obtain⟨_,h0,h1,h2,h3,_⟩:=q
        have:j=0∨j=1∨j=2∨j=3:=by omega
        rcases this with rfl | rfl | rfl | rfl <;> assumption
       rcases hx with hx | hx
       ·exact hu hx
       ·exact hl hx)
      clear hu hl
      go_wp2_with fail
      refine (impl_isUpper _ _).mono ?_
      rintro e w1 ⟨rfl,rfl⟩
      rw[HU.out]
      go_wp2_with fail
      refine (impl_isLower _ _).mono ?_
      rintro e w1 ⟨rfl,rfl⟩
      rw[HL.out]
      go_wp2_with fail
      go_ret
      rw[HD.out]
      exact⟨rfl,rfl⟩
   ·obtain rfl:j=n.size:=by omega
    have l2:2 < n.size:=by omega
    have HD:Hid (decide ((65:Int)≤((n[2]'l2).toNat:Int)∧((n[2]'l2).toNat:Int)≤90)=t):=by
     rw[HT.out]
     have a0:=hok.out 0 (by omega)
     have a1:=hok.out 1 (by omega)
     have a2:=hok.out 2 (by omega)
     have a3:=hok.out 3 (by omega)
     rw[byteAt_get n 2 l2]
     refine decide_eq_decide.2 ⟨fun q=>⟨hs,a0,a1,a2,a3,by omega⟩,fun q=>?_⟩
     have:=q.2.2.2.2.2
     omega
    go_wp2_with fail
    refine (impl_isUpper _ _).mono ?_
    rintro e w1 ⟨rfl,rfl⟩
    rw[HD.out]
    go_wp2_with fail
    go_ret
    exact⟨rfl,rfl⟩
 ·have e0:((n.size:Int) == 4)=false:=beq_eq_false_iff_ne.2 (by omega)
  have ht:=HT.out
  rw[decide_eq_false (fun q=>hs q.1)] at ht
  subst ht
  go_enter Try.func92,Try.ntmps92
  go_wp2_with fail
  go_ret
  exact⟨rfl,rfl⟩
theorem implName (n:ByteArray) (w:World):
  Calls Try.prog 92 #[.string n] w fun e w'=>e=.returned (.bool (decide (NameR n)))∧w'=w:=implName_t n _ rfl w
theorem implNeedless_t (n:ByteArray) (t:Bool) (ht:t=decide (NameR n∧97≤byteAt n 0)) (w:World):
  Calls Try.prog 80 #[.string n] w fun e w'=>e=.returned (.bool t)∧w'=w:=by
 have HT:=hid_of ht
 clear ht
 by_cases h:NameR n
 ·have l0:0 < n.size:=by have:=h.1; omega
  have HD:Hid (decide ((97:Int)≤((n[0]'l0).toNat:Int)∧((n[0]'l0).toNat:Int)≤122)=t):=by
   rw[HT.out]
   have hl:LetterR (byteAt n 0):=by obtain⟨_,h0,h1,h2,h3,_⟩:=h; assumption
   rw[byteAt_get n 0 l0]
   refine decide_eq_decide.2 ⟨fun q=>⟨h,by omega⟩,fun q=>?_⟩
   have:=q.2
   omega
  have HN:=hid_of (decide_eq_true h)
  clear h
  go_enter Try.func80,Try.ntmps80
  go_wp2_with fail
  refine (implName _ _).mono ?_
  rintro e w1 ⟨rfl,rfl⟩
  rw[HN.out]
  go_wp2_with fail
  refine (impl_isLower _ _).mono ?_
  rintro e w1 ⟨rfl,rfl⟩
  rw[HD.out]
  go_wp2_with fail
  go_ret
  exact⟨rfl,rfl⟩
 ·have ht:=HT.out
  rw[decide_eq_false (fun q=>h q.1)] at ht
  subst ht
  have HN:=hid_of (decide_eq_false h)
  clear h
  go_enter Try.func80,Try.ntmps80
  go_wp2_with fail
  refine (implName _ _).mono ?_
  rintro e w1 ⟨rfl,rfl⟩
  rw[HN.out]
  go_wp2_with fail
  go_ret
  exact⟨rfl,rfl⟩
theorem implNeedless (n:ByteArray) (w:World):
  Calls Try.prog 80 #[.string n] w fun e w'=>e=.returned (.bool (decide (NameR n∧97≤byteAt n 0)))∧w'=w:=implNeedless_t n _ rfl w
end
section
open Go.RowKit Go.Joins ChunkMath CrcMath
open scoped Classical
def KeptFlag (n:Nat) (K:Nat→Chk) (w:World) (e:Ending) (w':World):Prop:=∃ b,e=.returned (.bool b)∧(b=true↔KeptR n K)∧Below w.heap.size w w'
theorem keptF_no {n j:Nat} {K:Nat→Chk} {w wr:World} (hj:j < n) (h:¬ KeepR (K j)) (hb:Below w.heap.size w wr):KeptFlag n K w (.returned (.bool false)) wr:=⟨false,rfl,⟨fun e=>(by cases e),fun k=>absurd (k.2 j hj) h⟩,hb⟩
def KeptJ (w wr:World) (K:Nat→Chk) (j:Nat):Prop:=(∀ i,i < j→KeepR (K i))∧Below w.heap.size w wr
set_option maxRecDepth 100000 in
set_option maxHeartbeats 1600000 in
theorem implKept (a:Option Addr) (n c:Nat) (K:Nat→Chk) (w:World) (hC:KCame w a n K) (hn:n≤1048576) (hm:∀ i,i < n→(K i).2.size≤1048576):
  Calls Try.prog 43 #[.slice a n c] w (KeptFlag n K w):=by
 by_cases h1:n≤32
 case neg=>
  have HN:Hid (KeptFlag n K w (.returned (.bool false)) w):=⟨false,rfl,⟨fun e=>(by cases e),fun k=>absurd k.1 h1⟩,Below.refl _ _⟩
  have d1:decide ((32:Int) < (n:Int))=true:=decide_eq_true (by omega)
  clear h1 hm hC
  go_enter Try.func43,Try.ntmps43
  go_wp2_with fail
  go_ret
  exact HN.out
 have d1:decide ((32:Int) < (n:Int))=false:=decide_eq_false (by omega)
 have HC:=hid_of hC
 have HM:=hid_of hm
 have H1:=hid_of h1
 clear hC hm h1
 go_enter Try.func43,Try.ntmps43
 go_wp2_with fail
 go_loopw [10] (fun i w'=>∃ j:Nat,j≤n∧i=.int .i64 j∧Hid (KeptJ w w' K j)) (fun i _=>n - (intOf i).toNat)
 case atStart=>exact⟨0,Nat.zero_le _,rfl,fun i hi=>absurd hi (Nat.not_lt_zero i),Below.refl _ _⟩
 case round=>
  obtain⟨j,hj,rfl,hI⟩:=hrel
  by_cases hlt:j < n
  ·rcases HC.out with h0 | ⟨g,off,rfl,hg,hc⟩
   ·omega
   ·have c0:wr.cell? ⟨g,off+j * 2,none⟩=some (.string (K j).1):=(hI.out.2.cell (p:=⟨g,off+j * 2,none⟩) hg).trans (hc j hlt).1
    have c1:wr.cell? ⟨g,off+j * 2+1,none⟩=some (.string (K j).2):=(hI.out.2.cell (p:=⟨g,off+j * 2+1,none⟩) hg).trans (hc j hlt).2
    have hl2:g < wr.heap.size:=Nat.lt_of_lt_of_le hg hI.out.2.size
    have hs:=fun V=>implNeedless (K j).1 V
    have hz:=HM.out j hlt
    have HNo:Hid (¬ KeepR (K j)→∀ W,Below w.heap.size w W→KeptFlag n K w (.returned (.bool false)) W):=fun h W hb=>keptF_no hlt h hb
    have HYes:Hid (KeepR (K j)→∀ W,Below w.heap.size w W→KeptJ w W K (j+1)):=fun h W hb=>⟨fun i hi=>by
     by_cases e:i=j
     ·rw[e]; exact h
     ·exact hI.out.1 i (by omega),hb⟩
    have HB0:=hid_of hI.out.2
    obtain⟨x,hx⟩:∃ x,x=(K j).1:=⟨_,rfl⟩
    obtain⟨y,hy⟩:∃ y,y=(K j).2:=⟨_,rfl⟩
    have HK:Hid (KeepR (K j)↔(NameR x∧97≤byteAt x 0)∧¬ x=clearN∧y.size≤2600):=by
     rw[hx,hy]; exact Iff.rfl
    rw[← hx] at c0
    simp only [← hx] at hs
    rw[← hy] at c1 hz
    clear hx hy hc hI
    by_cases p1:NameR x∧97≤byteAt x 0
    ·simp only [decide_eq_true p1] at hs
     by_cases p2:x=clearN
     ·have e2:(x.toList == [116,82,78,83])=true:=by rw [← clearN_list]; exact text_is p2
      have HN:=hid_of (HNo.out fun h=>(HK.out.mp h).2.1 p2)
      clear p1 p2 HNo HYes HK
      go_wp2_with fail
      refine (hs _).mono ?_
      rintro e w1 ⟨rfl,rfl⟩
      go_wp2_with fail
      go_ret
      exact HN.out _ (bal HB0.out _)
     ·have e2:(x.toList == [116,82,78,83])=false:=by rw [← clearN_list]; exact text_not p2
      by_cases p3:y.size≤2600
      ·have d3:decide ((2600:Int) < (y.size:Int))=false:=decide_eq_false (by omega)
       have HY:=hid_of (HYes.out (HK.out.mpr ⟨p1,p2,p3⟩))
       clear p1 p2 p3 HNo HYes HK
       go_wp2_with fail
       refine (hs _).mono ?_
       rintro e w1 ⟨rfl,rfl⟩
       go_wp2_with fail
       go_roundw
       case rel=>exact⟨j+1,by omega,by go_num,HY.out _ (bal HB0.out _)⟩
       case measure=>simp [intOf]; omega
      ·have d3:decide ((2600:Int) < (y.size:Int))=true:=decide_eq_true (by omega)
       have HN:=hid_of (HNo.out fun h=>p3 (HK.out.mp h).2.2)
       clear p1 p2 p3 HNo HYes HK
       go_wp2_with fail
       refine (hs _).mono ?_
       rintro e w1 ⟨rfl,rfl⟩
       go_wp2_with fail
       go_ret
       exact HN.out _ (bal HB0.out _)
    ·simp only [decide_eq_false p1] at hs
     have HN:=hid_of (HNo.out fun h=>p1 (HK.out.mp h).1)
     clear p1 HNo HYes HK
     go_wp2_with fail
     refine (hs _).mono ?_
     rintro e w1 ⟨rfl,rfl⟩
     go_wp2_with fail
     go_ret
     exact HN.out _ (bal HB0.out _)
  ·obtain rfl:j=n:=by omega
   go_wp2_with fail
   go_ret
   exact⟨true,rfl,⟨fun _=>⟨H1.out,hI.out.1⟩,fun _=>rfl⟩,hI.out.2⟩
end
end Go.Proofs.Ytbadpggmjmodlaa
