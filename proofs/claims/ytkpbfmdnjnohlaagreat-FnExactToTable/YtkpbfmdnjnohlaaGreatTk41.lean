/-
  Texts of the proof, put together.
-/
import Derived.Test.YtkpbfmdnjnohlaaGreatTk01
import Derived.WalkLawsBesides
namespace Go.Proofs.YtkpbfmdnjnohlaaGreat
open Go.RowKit Go.Joins OutMath ChunkMath CrcMath
theorem impl_isUpper (b:Int) (w:World):
  Calls Tryz.prog 137 #[.int .u8 b] w fun e w'=>e=.returned (.bool (decide (65≤b∧b≤90)))∧w'=w:=by
 by_cases h1:65≤b
 ·by_cases h2:b≤90
  ·rw[decide_eq_true ⟨h1,h2⟩]
   go_enter Tryz.func137,Tryz.ntmps137
   go_wp2_with fail
   go_ret
   exact⟨rfl,rfl⟩
  ·rw[decide_eq_false (fun q=>h2 q.2)]
   go_enter Tryz.func137,Tryz.ntmps137
   go_wp2_with fail
   go_ret
   exact⟨rfl,rfl⟩
 ·rw[decide_eq_false (fun q=>h1 q.1)]
  go_enter Tryz.func137,Tryz.ntmps137
  go_wp2_with fail
  go_ret
  exact⟨rfl,rfl⟩
theorem impl_isLower (b:Int) (w:World):
  Calls Tryz.prog 131 #[.int .u8 b] w fun e w'=>e=.returned (.bool (decide (97≤b∧b≤122)))∧w'=w:=by
 by_cases h1:97≤b
 ·by_cases h2:b≤122
  ·rw[decide_eq_true ⟨h1,h2⟩]
   go_enter Tryz.func131,Tryz.ntmps131
   go_wp2_with fail
   go_ret
   exact⟨rfl,rfl⟩
  ·rw[decide_eq_false (fun q=>h2 q.2)]
   go_enter Tryz.func131,Tryz.ntmps131
   go_wp2_with fail
   go_ret
   exact⟨rfl,rfl⟩
 ·rw[decide_eq_false (fun q=>h1 q.1)]
  go_enter Tryz.func131,Tryz.ntmps131
  go_wp2_with fail
  go_ret
  exact⟨rfl,rfl⟩
theorem upper_at (n:ByteArray) (i:Nat) (hi:i < n.size) (t:Bool) (h:decide (65≤byteAt n i∧byteAt n i≤90)=t):decide (65≤((n[i]'hi).toNat:Int)∧((n[i]'hi).toNat:Int)≤90)=t:=by
 rw[← h,byteAt_get n i hi]
 exact decide_eq_decide.2 (by omega)
theorem lower_at (n:ByteArray) (i:Nat) (hi:i < n.size) (t:Bool) (h:decide (97≤byteAt n i∧byteAt n i≤122)=t):decide (97≤((n[i]'hi).toNat:Int)∧((n[i]'hi).toNat:Int)≤122)=t:=by
 rw[← h,byteAt_get n i hi]
 exact decide_eq_decide.2 (by omega)
set_option maxHeartbeats 1600000 in
theorem implName_t (n:ByteArray) (t:Bool) (ht:t=decide (NameR n)) (w:World):
  Calls Tryz.prog 130 #[.string n] w fun e w'=>e=.returned (.bool t)∧w'=w:=by
 have HT:=hid_of ht
 clear ht
 by_cases hs:n.size=4
 ·have e0:((n.size:Int) == 4)=true:=beq_iff_eq.2 (by omega)
  go_enter Tryz.func130,Tryz.ntmps130
  go_wp2_with fail
  go_loop [9] (fun i=>∃ j:Nat,j≤n.size∧i=.int .i64 j∧Hid (∀ i,i < j→LetterR (byteAt n i))) (fun i=>n.size - (intOf i).toNat)
  case atStart=>exact⟨0,Nat.zero_le _,rfl,fun i hi=>absurd hi (Nat.not_lt_zero i)⟩
  case round=>
   obtain⟨j,hj,rfl,hok⟩:=hrel
   by_cases hlt:j < n.size
   ·by_cases hu:65≤byteAt n j∧byteAt n j≤90
    ·have HU:=hid_of (upper_at n j hlt true (decide_eq_true hu))
     have HN:Hid (∀ i,i < j+1→LetterR (byteAt n i)):=fun i hi=>by
      by_cases e:i=j
      ·rw[e]; exact .inl hu
      ·exact hok.out i (by omega)
     clear hu
     go_wp2_with fail
     refine (impl_isUpper _ _).mono ?_
     rintro e w1 ⟨rfl,rfl⟩
     rw[HU.out]
     go_wp2_with fail
     go_round
     case rel=>exact⟨j+1,by omega,by go_num,HN⟩
     case measure=>simp [intOf]; omega
    ·have HU:=hid_of (upper_at n j hlt false (decide_eq_false hu))
     by_cases hl:97≤byteAt n j∧byteAt n j≤122
     ·have HL:=hid_of (lower_at n j hlt true (decide_eq_true hl))
      have HN:Hid (∀ i,i < j+1→LetterR (byteAt n i)):=fun i hi=>by
       by_cases e:i=j
       ·rw[e]; exact .inr hl
       ·exact hok.out i (by omega)
      clear hu hl
      go_wp2_with fail
      refine (impl_isUpper _ _).mono ?_
      rintro e w1 ⟨rfl,rfl⟩
      rw[HU.out]
      go_wp2_with fail
      refine (impl_isLower _ _).mono ?_
      rintro e w1 ⟨rfl,rfl⟩
      rw[HL.out]
      go_wp2_with fail
      go_round
      case rel=>exact⟨j+1,by omega,by go_num,HN⟩
      case measure=>simp [intOf]; omega
     ·have HL:=hid_of (lower_at n j hlt false (decide_eq_false hl))
      have HD:Hid (t=false):=HT.out.trans <| decide_eq_false (fun q=>by
       have hx:LetterR (byteAt n j):=by
        obtain⟨_,h0,h1,h2,h3,_⟩:=q
        have:j=0∨j=1∨j=2∨j=3:=by omega
        rcases this with rfl | rfl | rfl | rfl <;> assumption
       rcases hx with hx | hx
       ·exact hu hx
       ·exact hl hx)
      clear hu hl
      go_wp2_with fail
      refine (impl_isUpper _ _).mono ?_
      rintro e w1 ⟨rfl,rfl⟩
      rw[HU.out]
      go_wp2_with fail
      refine (impl_isLower _ _).mono ?_
      rintro e w1 ⟨rfl,rfl⟩
      rw[HL.out]
      go_wp2_with fail
      go_ret
      rw[HD.out]
      exact⟨rfl,rfl⟩
   ·obtain rfl:j=n.size:=by omega
    have l2:2 < n.size:=by omega
    have HD:Hid (decide ((65:Int)≤((n[2]'l2).toNat:Int)∧((n[2]'l2).toNat:Int)≤90)=t):=by
     rw[HT.out]
     have a0:=hok.out 0 (by omega)
     have a1:=hok.out 1 (by omega)
     have a2:=hok.out 2 (by omega)
     have a3:=hok.out 3 (by omega)
     rw[byteAt_get n 2 l2]
     refine decide_eq_decide.2 ⟨fun q=>⟨hs,a0,a1,a2,a3,by omega⟩,fun q=>?_⟩
     have:=q.2.2.2.2.2
     omega
    go_wp2_with fail
    refine (impl_isUpper _ _).mono ?_
    rintro e w1 ⟨rfl,rfl⟩
    rw[HD.out]
    go_wp2_with fail
    go_ret
    exact⟨rfl,rfl⟩
 ·have e0:((n.size:Int) == 4)=false:=beq_eq_false_iff_ne.2 (by omega)
  have ht:=HT.out
  rw[decide_eq_false (fun q=>hs q.1)] at ht
  subst ht
  go_enter Tryz.func130,Tryz.ntmps130
  go_wp2_with fail
  go_ret
  exact⟨rfl,rfl⟩
theorem implName (n:ByteArray) (w:World):
  Calls Tryz.prog 130 #[.string n] w fun e w'=>e=.returned (.bool (decide (NameR n)))∧w'=w:=implName_t n _ rfl w
theorem implNeedless_t (n:ByteArray) (t:Bool) (ht:t=decide (NameR n∧97≤byteAt n 0)) (w:World):
  Calls Tryz.prog 128 #[.string n] w fun e w'=>e=.returned (.bool t)∧w'=w:=by
 have HT:=hid_of ht
 clear ht
 by_cases h:NameR n
 ·have l0:0 < n.size:=by have:=h.1; omega
  have HD:Hid (decide ((97:Int)≤((n[0]'l0).toNat:Int)∧((n[0]'l0).toNat:Int)≤122)=t):=by
   rw[HT.out]
   have hl:LetterR (byteAt n 0):=by obtain⟨_,h0,h1,h2,h3,_⟩:=h; assumption
   rw[byteAt_get n 0 l0]
   refine decide_eq_decide.2 ⟨fun q=>⟨h,by omega⟩,fun q=>?_⟩
   have:=q.2
   omega
  have HN:=hid_of (decide_eq_true h)
  clear h
  go_enter Tryz.func128,Tryz.ntmps128
  go_wp2_with fail
  refine (implName _ _).mono ?_
  rintro e w1 ⟨rfl,rfl⟩
  rw[HN.out]
  go_wp2_with fail
  refine (impl_isLower _ _).mono ?_
  rintro e w1 ⟨rfl,rfl⟩
  rw[HD.out]
  go_wp2_with fail
  go_ret
  exact⟨rfl,rfl⟩
 ·have ht:=HT.out
  rw[decide_eq_false (fun q=>h q.1)] at ht
  subst ht
  have HN:=hid_of (decide_eq_false h)
  clear h
  go_enter Tryz.func128,Tryz.ntmps128
  go_wp2_with fail
  refine (implName _ _).mono ?_
  rintro e w1 ⟨rfl,rfl⟩
  rw[HN.out]
  go_wp2_with fail
  go_ret
  exact⟨rfl,rfl⟩
theorem implNeedless (n:ByteArray) (w:World):
  Calls Tryz.prog 128 #[.string n] w fun e w'=>e=.returned (.bool (decide (NameR n∧97≤byteAt n 0)))∧w'=w:=implNeedless_t n _ rfl w
theorem implSafeToCopy_t (n:ByteArray) (t:Bool) (ht:t=decide (NameR n∧97≤byteAt n 3)) (w:World):
  Calls Tryz.prog 106 #[.string n] w fun e w'=>e=.returned (.bool t)∧w'=w:=by
 have HT:=hid_of ht
 clear ht
 by_cases h:NameR n
 ·have l0:3 < n.size:=by have:=h.1; omega
  have HD:Hid (decide ((97:Int)≤((n[3]'l0).toNat:Int)∧((n[3]'l0).toNat:Int)≤122)=t):=by
   rw[HT.out]
   have hl:LetterR (byteAt n 3):=by obtain⟨_,h0,h1,h2,h3,_⟩:=h; assumption
   rw[byteAt_get n 3 l0]
   refine decide_eq_decide.2 ⟨fun q=>⟨h,by omega⟩,fun q=>?_⟩
   have:=q.2
   omega
  have HN:=hid_of (decide_eq_true h)
  clear h
  go_enter Tryz.func106,Tryz.ntmps106
  go_wp2_with fail
  refine (implName _ _).mono ?_
  rintro e w1 ⟨rfl,rfl⟩
  rw[HN.out]
  go_wp2_with fail
  refine (impl_isLower _ _).mono ?_
  rintro e w1 ⟨rfl,rfl⟩
  rw[HD.out]
  go_wp2_with fail
  go_ret
  exact⟨rfl,rfl⟩
 ·have ht:=HT.out
  rw[decide_eq_false (fun q=>h q.1)] at ht
  subst ht
  have HN:=hid_of (decide_eq_false h)
  clear h
  go_enter Tryz.func106,Tryz.ntmps106
  go_wp2_with fail
  refine (implName _ _).mono ?_
  rintro e w1 ⟨rfl,rfl⟩
  rw[HN.out]
  go_wp2_with fail
  go_ret
  exact⟨rfl,rfl⟩
theorem implSafeToCopy (n:ByteArray) (w:World):
  Calls Tryz.prog 106 #[.string n] w fun e w'=>e=.returned (.bool (decide (NameR n∧97≤byteAt n 3)))∧w'=w:=implSafeToCopy_t n _ rfl w
end Go.Proofs.YtkpbfmdnjnohlaaGreat
