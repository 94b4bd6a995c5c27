/-
  Texts of the proof, put together.
-/
import Derived.Test.YtkpbfmdnjnohlaaGreatRd03
namespace Go.Proofs.YtkpbfmdnjnohlaaGreat
open Go.RowKit Go.Joins OutMath RastMath BigTextMath HeadMath
theorem specDepth17 (x y c:Int) (d:Nat) (l:Bool) (w:World) (hd:d≤16):
  Calls Tryz.prog 116 #[.agg #[.int .i64 x,.int .i64 y,.int .i64 (d:Int),.int .i64 c,.bool l]] w fun e w'=>e=.returned (.int .i64 (d:Int))∧Below w.heap.size w w':=by
 have hi:=fun W=>in_yes (d:Int) 0 16 W (by omega) (by omega)
 have HB:=hid_of (bstart w (.cells #[.int .i64 x,.int .i64 y,.int .i64 (d:Int),.int .i64 c,.bool l] 32))
 clear hd
 go_enter Tryz.func116,Tryz.ntmps116
 go_wp2_with fail
 refine (hi _).mono ?_
 rintro e w1 ⟨rfl,rfl⟩
 go_wp2_with fail
 go_ret
 exact⟨rfl,HB.out⟩
def InM (f:Nat→Int) (n:Nat) (M:Int):Prop:=∀ i,i < n→0≤f i∧f i≤M
theorem inM_fit (f:Nat→Int) (n d:Nat):InM f n (p2 d - 1)↔Fit12 f n d:=⟨fun h i hi=>by have:=h i hi; omega,fun h i hi=>by have:=h i hi; omega⟩
theorem InM.next {f:Nat→Int} {n:Nat} {M:Int} (h:InM f n M) (h0:0≤f n) (h1:f n≤M):InM f (n+1) M:=fun i hi=>by
 by_cases e:i=n
 ·rw[e]; exact⟨h0,h1⟩
 ·exact h i (by omega)
set_option maxRecDepth 100000 in
set_option maxHeartbeats 3200000 in
theorem specClearOk_gray (x y table:Int) (d:Nat) (l:Bool) (a:Option Addr) (n cap:Nat) (f:Nat→Int) (w:World) (hC:Came w a n f) (hn:n≤1048576) (h1:1≤n) (hd:d≤16):
  Calls Tryz.prog 93 #[.agg #[.int .i64 x,.int .i64 y,.int .i64 (d:Int),.int .i64 0,.bool l],.int .i64 table,.slice a n cap] w (Flag (InM f n (p2 d - 1)∧n=1) w):=by
 have HC:=hid_of hC
 have HB:=hid_of (bstart w (.cells #[.int .i64 x,.int .i64 y,.int .i64 (d:Int),.int .i64 0,.bool l] 32))
 have HX:Hid ((w.alloc (.cells #[.int .i64 x,.int .i64 y,.int .i64 (d:Int),.int .i64 0,.bool l] 32)).heap[w.heap.size]?=some (.cells #[.int .i64 x,.int .i64 y,.int .i64 (d:Int),.int .i64 0,.bool l] 32 (0,0))):=heap_alloc_new w _
 have z0:((n:Int) == 0)=false:=by simp only [beq_eq_false_iff_ne,ne_eq]; omega
 have hdp:=fun W=>specDepth17 x y 0 d l W hd
 have hpw:=fun W=>pow_any d W (by omega)
 have hpp:=p2_pos d
 have hp16:p2 d≤65536:=by
  have:=p2_le (show d≤16 by omega)
  rw[show p2 16=65536 by decide +kernel] at this
  exact this
 obtain⟨P,hP⟩:∃ P,P=p2 d:=⟨_,rfl⟩
 rw[← hP] at hpw hpp hp16
 have HP:=hid_of hP
 have wp:IntKind.i64.wrap (P - 1)=P - 1:=by rw [IntKind.wrap_i64]; omega
 rw[← hP]
 clear hP
 have H1:=hid_of h1
 clear hC h1
 go_enter Tryz.func93,Tryz.ntmps93
 go_wp2_with fail
 generalize w.alloc (.cells #[.int .i64 x,.int .i64 y,.int .i64 (d:Int),.int .i64 0,.bool l] 32)=W1 at HX HB ⊢
 refine (hdp W1).mono ?_
 rintro e w1 ⟨rfl,hB1⟩
 have HX1:=hid_of ((hB1.block _ (block_lt HX.out)).trans HX.out)
 have HB1:=hid_of (bnext HB.out hB1)
 clear hB1 HX HB hdp
 go_wp2_with fail
 refine (hpw w1).mono ?_
 rintro e w2 ⟨rfl,rfl⟩
 go_wp2_with fail
 go_loop [9] (fun i=>∃ j:Nat,j≤n∧i=.int .i64 j∧Hid (InM f j (P - 1))) (fun i=>n - (intOf i).toNat)
 case atStart=>exact⟨0,Nat.zero_le _,rfl,fun i hi=>absurd hi (Nat.not_lt_zero i)⟩
 case round=>
  obtain⟨j,hj,rfl,hok⟩:=hrel
  by_cases hlt:j < n
  ·rcases HC.out.called HB1.out with q0 | ⟨g,off,rfl,hg,hc⟩
   ·omega
   ·have k0:=hc j hlt
    clear hc
    by_cases hin:0≤f j∧f j≤(P - 1)
    ·have HK:Hid (InM f (j+1) (P - 1)):=hok.out.next hin.1 hin.2
     have hi:=fun W=>in_yes (f j) 0 (P - 1) W hin.1 hin.2
     clear hin
     go_wp2_with fail
     refine (hi _).mono ?_
     rintro e w3 ⟨rfl,rfl⟩
     go_wp2_with fail
     go_round
     case rel=>exact⟨j+1,by omega,by go_num,HK⟩
     case measure=>simp [intOf]; omega
    ·have HK:Hid (¬ InM f n (P - 1)):=fun k=>hin (k j hlt)
     have hi:=fun W=>in_no (f j) 0 (P - 1) W hin
     clear hin
     go_wp2_with fail
     refine (hi _).mono ?_
     rintro e w3 ⟨rfl,rfl⟩
     go_wp2_with fail
     go_ret
     exact⟨false,rfl,by simp [HK.out],HB1.out⟩
  ·obtain rfl:j=n:=by omega
   go_wp2_with fail
   go_ret
   refine⟨_,rfl,?_,HB1.out⟩
   simp[hok.out]
   have:=H1.out
   omega
set_option maxRecDepth 100000 in
set_option maxHeartbeats 3200000 in
theorem specClearOk_full (x y table:Int) (d:Nat) (l:Bool) (a:Option Addr) (n cap:Nat) (f:Nat→Int) (w:World) (hC:Came w a n f) (hn:n≤1048576) (h1:1≤n) (hd:d≤16):
  Calls Tryz.prog 93 #[.agg #[.int .i64 x,.int .i64 y,.int .i64 (d:Int),.int .i64 2,.bool l],.int .i64 table,.slice a n cap] w (Flag (InM f n (p2 d - 1)∧n=3) w):=by
 have HC:=hid_of hC
 have HB:=hid_of (bstart w (.cells #[.int .i64 x,.int .i64 y,.int .i64 (d:Int),.int .i64 2,.bool l] 32))
 have HX:Hid ((w.alloc (.cells #[.int .i64 x,.int .i64 y,.int .i64 (d:Int),.int .i64 2,.bool l] 32)).heap[w.heap.size]?=some (.cells #[.int .i64 x,.int .i64 y,.int .i64 (d:Int),.int .i64 2,.bool l] 32 (0,0))):=heap_alloc_new w _
 have z0:((n:Int) == 0)=false:=by simp only [beq_eq_false_iff_ne,ne_eq]; omega
 have hdp:=fun W=>specDepth17 x y 2 d l W hd
 have hpw:=fun W=>pow_any d W (by omega)
 have hpp:=p2_pos d
 have hp16:p2 d≤65536:=by
  have:=p2_le (show d≤16 by omega)
  rw[show p2 16=65536 by decide +kernel] at this
  exact this
 obtain⟨P,hP⟩:∃ P,P=p2 d:=⟨_,rfl⟩
 rw[← hP] at hpw hpp hp16
 have HP:=hid_of hP
 have wp:IntKind.i64.wrap (P - 1)=P - 1:=by rw [IntKind.wrap_i64]; omega
 rw[← hP]
 clear hP
 have H1:=hid_of h1
 clear hC h1
 go_enter Tryz.func93,Tryz.ntmps93
 go_wp2_with fail
 generalize w.alloc (.cells #[.int .i64 x,.int .i64 y,.int .i64 (d:Int),.int .i64 2,.bool l] 32)=W1 at HX HB ⊢
 refine (hdp W1).mono ?_
 rintro e w1 ⟨rfl,hB1⟩
 have HX1:=hid_of ((hB1.block _ (block_lt HX.out)).trans HX.out)
 have HB1:=hid_of (bnext HB.out hB1)
 clear hB1 HX HB hdp
 go_wp2_with fail
 refine (hpw w1).mono ?_
 rintro e w2 ⟨rfl,rfl⟩
 go_wp2_with fail
 go_loop [9] (fun i=>∃ j:Nat,j≤n∧i=.int .i64 j∧Hid (InM f j (P - 1))) (fun i=>n - (intOf i).toNat)
 case atStart=>exact⟨0,Nat.zero_le _,rfl,fun i hi=>absurd hi (Nat.not_lt_zero i)⟩
 case round=>
  obtain⟨j,hj,rfl,hok⟩:=hrel
  by_cases hlt:j < n
  ·rcases HC.out.called HB1.out with q0 | ⟨g,off,rfl,hg,hc⟩
   ·omega
   ·have k0:=hc j hlt
    clear hc
    by_cases hin:0≤f j∧f j≤(P - 1)
    ·have HK:Hid (InM f (j+1) (P - 1)):=hok.out.next hin.1 hin.2
     have hi:=fun W=>in_yes (f j) 0 (P - 1) W hin.1 hin.2
     clear hin
     go_wp2_with fail
     refine (hi _).mono ?_
     rintro e w3 ⟨rfl,rfl⟩
     go_wp2_with fail
     go_round
     case rel=>exact⟨j+1,by omega,by go_num,HK⟩
     case measure=>simp [intOf]; omega
    ·have HK:Hid (¬ InM f n (P - 1)):=fun k=>hin (k j hlt)
     have hi:=fun W=>in_no (f j) 0 (P - 1) W hin
     clear hin
     go_wp2_with fail
     refine (hi _).mono ?_
     rintro e w3 ⟨rfl,rfl⟩
     go_wp2_with fail
     go_ret
     exact⟨false,rfl,by simp [HK.out],HB1.out⟩
  ·obtain rfl:j=n:=by omega
   go_wp2_with fail
   go_ret
   refine⟨_,rfl,?_,HB1.out⟩
   simp[hok.out]
   have:=H1.out
   omega
set_option maxRecDepth 100000 in
set_option maxHeartbeats 3200000 in
theorem specClearOk_table (x y table:Int) (d:Nat) (l:Bool) (a:Option Addr) (n cap:Nat) (f:Nat→Int) (w:World) (hC:Came w a n f) (hn:n≤1048576) (h1:1≤n) (_hd:d≤16) (ht:(n:Int)≤table):
  Calls Tryz.prog 93 #[.agg #[.int .i64 x,.int .i64 y,.int .i64 (d:Int),.int .i64 3,.bool l],.int .i64 table,.slice a n cap] w (Flag (InM f n 255∧n=n) w):=by
 have HC:=hid_of hC
 have HB:=hid_of (bstart w (.cells #[.int .i64 x,.int .i64 y,.int .i64 (d:Int),.int .i64 3,.bool l] 32))
 have HX:Hid ((w.alloc (.cells #[.int .i64 x,.int .i64 y,.int .i64 (d:Int),.int .i64 3,.bool l] 32)).heap[w.heap.size]?=some (.cells #[.int .i64 x,.int .i64 y,.int .i64 (d:Int),.int .i64 3,.bool l] 32 (0,0))):=heap_alloc_new w _
 have z0:((n:Int) == 0)=false:=by simp only [beq_eq_false_iff_ne,ne_eq]; omega
 have dt:decide (table < (n:Int))=false:=decide_eq_false (by omega)
 clear ht
 clear hC h1
 go_enter Tryz.func93,Tryz.ntmps93
 go_wp2_with fail
 have HB1:=HB
 clear HX HB
 generalize w.alloc (.cells #[.int .i64 x,.int .i64 y,.int .i64 (d:Int),.int .i64 3,.bool l] 32)=w2 at HB1 ⊢
 go_loop [9] (fun i=>∃ j:Nat,j≤n∧i=.int .i64 j∧Hid (InM f j 255)) (fun i=>n - (intOf i).toNat)
 case atStart=>exact⟨0,Nat.zero_le _,rfl,fun i hi=>absurd hi (Nat.not_lt_zero i)⟩
 case round=>
  obtain⟨j,hj,rfl,hok⟩:=hrel
  by_cases hlt:j < n
  ·rcases HC.out.called HB1.out with q0 | ⟨g,off,rfl,hg,hc⟩
   ·omega
   ·have k0:=hc j hlt
    clear hc
    by_cases hin:0≤f j∧f j≤255
    ·have HK:Hid (InM f (j+1) 255):=hok.out.next hin.1 hin.2
     have hi:=fun W=>in_yes (f j) 0 255 W hin.1 hin.2
     clear hin
     go_wp2_with fail
     refine (hi _).mono ?_
     rintro e w3 ⟨rfl,rfl⟩
     go_wp2_with fail
     go_round
     case rel=>exact⟨j+1,by omega,by go_num,HK⟩
     case measure=>simp [intOf]; omega
    ·have HK:Hid (¬ InM f n 255):=fun k=>hin (k j hlt)
     have hi:=fun W=>in_no (f j) 0 255 W hin
     clear hin
     go_wp2_with fail
     refine (hi _).mono ?_
     rintro e w3 ⟨rfl,rfl⟩
     go_wp2_with fail
     go_ret
     exact⟨false,rfl,by simp [HK.out],HB1.out⟩
  ·obtain rfl:j=n:=by omega
   go_wp2_with fail
   go_ret
   refine⟨_,rfl,?_,HB1.out⟩
   simp[hok.out]
set_option maxRecDepth 100000 in
set_option maxHeartbeats 3200000 in
theorem specClearOk_other (x y c table:Int) (d:Nat) (l:Bool) (a:Option Addr) (n cap:Nat) (f:Nat→Int) (w:World) (hC:Came w a n f) (hn:n≤1048576) (h1:1≤n) (_hd:d≤16) (n0:¬ c=0) (n2:¬ c=2) (n3:¬ c=3):
  Calls Tryz.prog 93 #[.agg #[.int .i64 x,.int .i64 y,.int .i64 (d:Int),.int .i64 c,.bool l],.int .i64 table,.slice a n cap] w (Flag (InM f n 0∧n=0) w):=by
 have HC:=hid_of hC
 have HB:=hid_of (bstart w (.cells #[.int .i64 x,.int .i64 y,.int .i64 (d:Int),.int .i64 c,.bool l] 32))
 have HX:Hid ((w.alloc (.cells #[.int .i64 x,.int .i64 y,.int .i64 (d:Int),.int .i64 c,.bool l] 32)).heap[w.heap.size]?=some (.cells #[.int .i64 x,.int .i64 y,.int .i64 (d:Int),.int .i64 c,.bool l] 32 (0,0))):=heap_alloc_new w _
 have z0:((n:Int) == 0)=false:=by simp only [beq_eq_false_iff_ne,ne_eq]; omega
 have c0:(c == 0)=false:=by simp only [beq_eq_false_iff_ne,ne_eq]; exact n0
 have c2:(c == 2)=false:=by simp only [beq_eq_false_iff_ne,ne_eq]; exact n2
 have c3:(c == 3)=false:=by simp only [beq_eq_false_iff_ne,ne_eq]; exact n3
 clear n0 n2 n3
 have H1:=hid_of h1
 clear hC h1
 go_enter Tryz.func93,Tryz.ntmps93
 go_wp2_with fail
 have HB1:=HB
 clear HX HB
 generalize w.alloc (.cells #[.int .i64 x,.int .i64 y,.int .i64 (d:Int),.int .i64 c,.bool l] 32)=w2 at HB1 ⊢
 go_loop [9] (fun i=>∃ j:Nat,j≤n∧i=.int .i64 j∧Hid (InM f j 0)) (fun i=>n - (intOf i).toNat)
 case atStart=>exact⟨0,Nat.zero_le _,rfl,fun i hi=>absurd hi (Nat.not_lt_zero i)⟩
 case round=>
  obtain⟨j,hj,rfl,hok⟩:=hrel
  by_cases hlt:j < n
  ·rcases HC.out.called HB1.out with q0 | ⟨g,off,rfl,hg,hc⟩
   ·omega
   ·have k0:=hc j hlt
    clear hc
    by_cases hin:0≤f j∧f j≤0
    ·have HK:Hid (InM f (j+1) 0):=hok.out.next hin.1 hin.2
     have hi:=fun W=>in_yes (f j) 0 0 W hin.1 hin.2
     clear hin
     go_wp2_with fail
     refine (hi _).mono ?_
     rintro e w3 ⟨rfl,rfl⟩
     go_wp2_with fail
     go_round
     case rel=>exact⟨j+1,by omega,by go_num,HK⟩
     case measure=>simp [intOf]; omega
    ·have HK:Hid (¬ InM f n 0):=fun k=>hin (k j hlt)
     have hi:=fun W=>in_no (f j) 0 0 W hin
     clear hin
     go_wp2_with fail
     refine (hi _).mono ?_
     rintro e w3 ⟨rfl,rfl⟩
     go_wp2_with fail
     go_ret
     exact⟨false,rfl,by simp [HK.out],HB1.out⟩
  ·obtain rfl:j=n:=by omega
   go_wp2_with fail
   go_ret
   refine⟨_,rfl,?_,HB1.out⟩
   simp[hok.out]
   have:=H1.out
   omega
theorem specClearOk (x y c table:Int) (d:Nat) (l:Bool) (a:Option Addr) (n cap:Nat) (f:Nat→Int) (w:World) (hC:Came w a n f) (hn:n≤1048576) (h1:1≤n) (hd:d≤16):
  Calls Tryz.prog 93 #[.agg #[.int .i64 x,.int .i64 y,.int .i64 (d:Int),.int .i64 c,.bool l],.int .i64 table,.slice a n cap] w (Flag (ClearR (d:Int) c table n f) w):=by
 have ed:((d:Int)).toNat=d:=Int.toNat_natCast d
 by_cases h0:c=0
 ·subst h0
  refine (specClearOk_gray x y table d l a n cap f w hC hn h1 hd).mono fun e w' h=>h.congr ?_
  unfold ClearR
  rw[inM_fit,ed]
  constructor
  ·rintro⟨k,e⟩
   exact⟨h1,.inl ⟨rfl,e,k⟩⟩
  ·rintro⟨_,⟨_,e,k⟩ | ⟨q,_⟩ | ⟨q,_⟩⟩
   ·exact⟨k,e⟩
   ·omega
   ·omega
 by_cases h2:c=2
 ·subst h2
  refine (specClearOk_full x y table d l a n cap f w hC hn h1 hd).mono fun e w' h=>h.congr ?_
  unfold ClearR
  rw[inM_fit,ed]
  constructor
  ·rintro⟨k,e⟩
   exact⟨h1,.inr (.inl ⟨rfl,e,k⟩)⟩
  ·rintro⟨_,⟨q,_⟩ | ⟨_,e,k⟩ | ⟨q,_⟩⟩
   ·omega
   ·exact⟨k,e⟩
   ·omega
 by_cases h3:c=3
 ·subst h3
  by_cases ht:(n:Int)≤table
  ·refine (specClearOk_table x y table d l a n cap f w hC hn h1 hd ht).mono fun e w' h=>h.congr ?_
   unfold ClearR
   rw[show (255:Int)=p2 8 - 1 by rw [p2_8]; rfl,inM_fit]
   constructor
   ·rintro⟨k,_⟩
    exact⟨h1,.inr (.inr ⟨rfl,ht,k⟩)⟩
   ·rintro⟨_,⟨q,_⟩ | ⟨q,_⟩ | ⟨_,e,k⟩⟩
    ·omega
    ·omega
    ·exact⟨k,rfl⟩
  ·have dt:decide (table < (n:Int))=true:=decide_eq_true (by omega)
   have HN:Hid (¬ ClearR (d:Int) 3 table n f):=by
    rintro⟨_,⟨q,_⟩ | ⟨q,_⟩ | ⟨_,e,k⟩⟩
    ·omega
    ·omega
    ·exact ht e
   have HB:=hid_of (bstart w (.cells #[.int .i64 x,.int .i64 y,.int .i64 (d:Int),.int .i64 3,.bool l] 32))
   clear ht
   go_enter Tryz.func93,Tryz.ntmps93
   go_wp2_with fail
   go_ret
   exact⟨_,rfl,by simp [HN.out],HB.out⟩
 ·refine (specClearOk_other x y c table d l a n cap f w hC hn h1 hd h0 h2 h3).mono fun e w' h=>h.congr ?_
  unfold ClearR
  constructor
  ·rintro⟨_,e⟩
   omega
  ·rintro⟨_,⟨q,_⟩ | ⟨q,_⟩ | ⟨q,_⟩⟩
   ·omega
   ·omega
   ·omega
end Go.Proofs.YtkpbfmdnjnohlaaGreat
