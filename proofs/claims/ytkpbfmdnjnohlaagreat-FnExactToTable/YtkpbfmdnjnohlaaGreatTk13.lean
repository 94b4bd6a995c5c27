/-
  Texts of the proof, put together.
-/
import Derived.Test.YtkpbfmdnjnohlaaGreatTk01
import Derived.WalkLawsBesides
namespace Go.Proofs.YtkpbfmdnjnohlaaGreat
section
open Go.RowKit Go.Joins OutMath ChunkMath CrcMath
theorem specLetter_yes (b:Int) (w:World) (h:65≤b∧b≤90∨97≤b∧b≤122):
  Calls Tryz.prog 133 #[.int .u8 b] w fun e w'=>e=.returned (.bool true)∧w'=w:=by
 rcases h with ⟨h1,h2⟩ | ⟨h1,h2⟩
 ·go_enter Tryz.func133,Tryz.ntmps133
  go_wp2_with fail
  go_ret
  exact⟨rfl,rfl⟩
 ·have h3:¬ b≤90:=by omega
  have h4:65≤b:=by omega
  go_enter Tryz.func133,Tryz.ntmps133
  go_wp2_with fail
  go_ret
  exact⟨rfl,rfl⟩
theorem specLetter_no (b:Int) (w:World) (h:¬ (65≤b∧b≤90∨97≤b∧b≤122)):
  Calls Tryz.prog 133 #[.int .u8 b] w fun e w'=>e=.returned (.bool false)∧w'=w:=by
 by_cases h1:65≤b
 ·have h2:¬ b≤90:=by omega
  by_cases h3:97≤b
  ·have h4:¬ b≤122:=by omega
   clear h
   go_enter Tryz.func133,Tryz.ntmps133
   go_wp2_with fail
   go_ret
   exact⟨rfl,rfl⟩
  ·clear h
   go_enter Tryz.func133,Tryz.ntmps133
   go_wp2_with fail
   go_ret
   exact⟨rfl,rfl⟩
 ·have h3:¬ 97≤b:=by omega
  clear h
  go_enter Tryz.func133,Tryz.ntmps133
  go_wp2_with fail
  go_ret
  exact⟨rfl,rfl⟩
theorem let_in (n:ByteArray) (i:Nat) (hi:i < n.size):LetterR (byteAt n i)↔(65≤((n[i]'hi).toNat:Int)∧((n[i]'hi).toNat:Int)≤90∨97≤((n[i]'hi).toNat:Int)∧((n[i]'hi).toNat:Int)≤122):=by
 rw[← byteAt_get n i hi]
 omega
set_option maxHeartbeats 800000 in
theorem specName_yes (n:ByteArray) (w:World) (h:NameR n):
  Calls Tryz.prog 119 #[.string n] w fun e w'=>e=.returned (.bool true)∧w'=w:=by
 obtain⟨hs,h0,h1,h2,h3,h4⟩:=h
 have l0:0 < n.size:=by omega
 have l1:1 < n.size:=by omega
 have l2:2 < n.size:=by omega
 have l3:3 < n.size:=by omega
 have e0:((n.size:Int) == 4)=true:=beq_iff_eq.2 (by omega)
 have H0:=hid_of ((let_in n 0 l0).1 h0)
 have H1:=hid_of ((let_in n 1 l1).1 h1)
 have H2:=hid_of ((let_in n 2 l2).1 h2)
 have H3:=hid_of ((let_in n 3 l3).1 h3)
 have h5:((n[2]'l2).toNat:Int)≤90:=by rw [byteAt_get n 2 l2]; omega
 clear h0 h1 h2 h3 h4
 go_enter Tryz.func119,Tryz.ntmps119
 go_wp2_with fail
 refine (specLetter_yes _ _ H0.out).mono ?_
 rintro e w1 ⟨rfl,rfl⟩
 go_wp2_with fail
 refine (specLetter_yes _ _ H1.out).mono ?_
 rintro e w1 ⟨rfl,rfl⟩
 go_wp2_with fail
 refine (specLetter_yes _ _ H2.out).mono ?_
 rintro e w1 ⟨rfl,rfl⟩
 go_wp2_with fail
 refine (specLetter_yes _ _ H3.out).mono ?_
 rintro e w1 ⟨rfl,rfl⟩
 go_wp2_with fail
 go_ret
 exact⟨rfl,rfl⟩
set_option maxHeartbeats 1600000 in
theorem specName_no (n:ByteArray) (w:World) (h:¬ NameR n):
  Calls Tryz.prog 119 #[.string n] w fun e w'=>e=.returned (.bool false)∧w'=w:=by
 by_cases hs:n.size=4
 ·have e0:((n.size:Int) == 4)=true:=beq_iff_eq.2 (by omega)
  have l0:0 < n.size:=by omega
  have l1:1 < n.size:=by omega
  have l2:2 < n.size:=by omega
  have l3:3 < n.size:=by omega
  by_cases h0:LetterR (byteAt n 0)
  ·have H0:=hid_of ((let_in n 0 l0).1 h0)
   by_cases h1:LetterR (byteAt n 1)
   ·have H1:=hid_of ((let_in n 1 l1).1 h1)
    by_cases h2:LetterR (byteAt n 2)
    ·have H2:=hid_of ((let_in n 2 l2).1 h2)
     by_cases h3:LetterR (byteAt n 3)
     ·have H3:=hid_of ((let_in n 3 l3).1 h3)
      have h5:decide (((n[2]'l2).toNat:Int)≤90)=false:=decide_eq_false fun q=>h ⟨hs,h0,h1,h2,h3,by rw [byteAt_get n 2 l2] at q; omega⟩
      clear h h0 h1 h2 h3
      go_enter Tryz.func119,Tryz.ntmps119
      go_wp2_with fail
      refine (specLetter_yes _ _ H0.out).mono ?_
      rintro e w1 ⟨rfl,rfl⟩
      go_wp2_with fail
      refine (specLetter_yes _ _ H1.out).mono ?_
      rintro e w1 ⟨rfl,rfl⟩
      go_wp2_with fail
      refine (specLetter_yes _ _ H2.out).mono ?_
      rintro e w1 ⟨rfl,rfl⟩
      go_wp2_with fail
      refine (specLetter_yes _ _ H3.out).mono ?_
      rintro e w1 ⟨rfl,rfl⟩
      go_wp2_with fail
      go_ret
      exact⟨rfl,rfl⟩
     ·have H3:=hid_of (fun q=>h3 ((let_in n 3 l3).2 q))
      clear h h3 h0 h1 h2
      go_enter Tryz.func119,Tryz.ntmps119
      go_wp2_with fail
      refine (specLetter_yes _ _ H0.out).mono ?_
      rintro e w1 ⟨rfl,rfl⟩
      go_wp2_with fail
      refine (specLetter_yes _ _ H1.out).mono ?_
      rintro e w1 ⟨rfl,rfl⟩
      go_wp2_with fail
      refine (specLetter_yes _ _ H2.out).mono ?_
      rintro e w1 ⟨rfl,rfl⟩
      go_wp2_with fail
      refine (specLetter_no _ _ H3.out).mono ?_
      rintro e w1 ⟨rfl,rfl⟩
      go_wp2_with fail
      go_ret
      exact⟨rfl,rfl⟩
    ·have H2:=hid_of (fun q=>h2 ((let_in n 2 l2).2 q))
     clear h h2 h0 h1
     go_enter Tryz.func119,Tryz.ntmps119
     go_wp2_with fail
     refine (specLetter_yes _ _ H0.out).mono ?_
     rintro e w1 ⟨rfl,rfl⟩
     go_wp2_with fail
     refine (specLetter_yes _ _ H1.out).mono ?_
     rintro e w1 ⟨rfl,rfl⟩
     go_wp2_with fail
     refine (specLetter_no _ _ H2.out).mono ?_
     rintro e w1 ⟨rfl,rfl⟩
     go_wp2_with fail
     go_ret
     exact⟨rfl,rfl⟩
   ·have H1:=hid_of (fun q=>h1 ((let_in n 1 l1).2 q))
    clear h h1 h0
    go_enter Tryz.func119,Tryz.ntmps119
    go_wp2_with fail
    refine (specLetter_yes _ _ H0.out).mono ?_
    rintro e w1 ⟨rfl,rfl⟩
    go_wp2_with fail
    refine (specLetter_no _ _ H1.out).mono ?_
    rintro e w1 ⟨rfl,rfl⟩
    go_wp2_with fail
    go_ret
    exact⟨rfl,rfl⟩
  ·have H0:=hid_of (fun q=>h0 ((let_in n 0 l0).2 q))
   clear h h0 
   go_enter Tryz.func119,Tryz.ntmps119
   go_wp2_with fail
   refine (specLetter_no _ _ H0.out).mono ?_
   rintro e w1 ⟨rfl,rfl⟩
   go_wp2_with fail
   go_ret
   exact⟨rfl,rfl⟩
 ·have e0:((n.size:Int) == 4)=false:=beq_eq_false_iff_ne.2 (by omega)
  clear h
  go_enter Tryz.func119,Tryz.ntmps119
  go_wp2_with fail
  go_ret
  exact⟨rfl,rfl⟩
end
section
open Go.RowKit Go.Joins OutMath ChunkMath CrcMath
theorem specNeedless (n:ByteArray) (w:World):
  Calls Tryz.prog 117 #[.string n] w fun e w'=>e=.returned (.bool (decide (NameR n∧97≤byteAt n 0)))∧w'=w:=by
 by_cases h:NameR n
 ·have l0:0 < n.size:=by have:=h.1; omega
  by_cases h1:97≤byteAt n 0
  ·rw[decide_eq_true ⟨h,h1⟩]
   have HN:=hid_of h
   have h2:decide ((97:Int)≤((n[0]'l0).toNat:Int))=true:=decide_eq_true <| by rw [byteAt_get n 0 l0]; omega
   clear h h1
   go_enter Tryz.func117,Tryz.ntmps117
   go_wp2_with fail
   refine (specName_yes _ _ HN.out).mono ?_
   rintro e w1 ⟨rfl,rfl⟩
   go_wp2_with fail
   go_ret
   exact⟨rfl,rfl⟩
  ·rw[decide_eq_false (fun q=>h1 q.2)]
   have HN:=hid_of h
   have h2:decide ((97:Int)≤((n[0]'l0).toNat:Int))=false:=decide_eq_false <| by rw [byteAt_get n 0 l0]; omega
   clear h h1
   go_enter Tryz.func117,Tryz.ntmps117
   go_wp2_with fail
   refine (specName_yes _ _ HN.out).mono ?_
   rintro e w1 ⟨rfl,rfl⟩
   go_wp2_with fail
   go_ret
   exact⟨rfl,rfl⟩
 ·rw[decide_eq_false (fun q=>h q.1)]
  have HN:=hid_of h
  clear h
  go_enter Tryz.func117,Tryz.ntmps117
  go_wp2_with fail
  refine (specName_no _ _ HN.out).mono ?_
  rintro e w1 ⟨rfl,rfl⟩
  go_wp2_with fail
  go_ret
  exact⟨rfl,rfl⟩
theorem specSafeToCopy (n:ByteArray) (w:World):
  Calls Tryz.prog 96 #[.string n] w fun e w'=>e=.returned (.bool (decide (NameR n∧97≤byteAt n 3)))∧w'=w:=by
 by_cases h:NameR n
 ·have l0:3 < n.size:=by have:=h.1; omega
  by_cases h1:97≤byteAt n 3
  ·rw[decide_eq_true ⟨h,h1⟩]
   have HN:=hid_of h
   have h2:decide ((97:Int)≤((n[3]'l0).toNat:Int))=true:=decide_eq_true <| by rw [byteAt_get n 3 l0]; omega
   clear h h1
   go_enter Tryz.func96,Tryz.ntmps96
   go_wp2_with fail
   refine (specName_yes _ _ HN.out).mono ?_
   rintro e w1 ⟨rfl,rfl⟩
   go_wp2_with fail
   go_ret
   exact⟨rfl,rfl⟩
  ·rw[decide_eq_false (fun q=>h1 q.2)]
   have HN:=hid_of h
   have h2:decide ((97:Int)≤((n[3]'l0).toNat:Int))=false:=decide_eq_false <| by rw [byteAt_get n 3 l0]; omega
   clear h h1
   go_enter Tryz.func96,Tryz.ntmps96
   go_wp2_with fail
   refine (specName_yes _ _ HN.out).mono ?_
   rintro e w1 ⟨rfl,rfl⟩
   go_wp2_with fail
   go_ret
   exact⟨rfl,rfl⟩
 ·rw[decide_eq_false (fun q=>h q.1)]
  have HN:=hid_of h
  clear h
  go_enter Tryz.func96,Tryz.ntmps96
  go_wp2_with fail
  refine (specName_no _ _ HN.out).mono ?_
  rintro e w1 ⟨rfl,rfl⟩
  go_wp2_with fail
  go_ret
  exact⟨rfl,rfl⟩
end
end Go.Proofs.YtkpbfmdnjnohlaaGreat
