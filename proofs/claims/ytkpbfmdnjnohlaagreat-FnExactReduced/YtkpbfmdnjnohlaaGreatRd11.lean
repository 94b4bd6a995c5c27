/-
  Texts of the proof, put together.
-/
import Derived.Test.YtkpbfmdnjnohlaaGreatRd10
namespace Go.Proofs.YtkpbfmdnjnohlaaGreat
open Go.RowKit Go.Joins OutMath RastMath HeadMath
set_option maxHeartbeats 1600000 in
theorem implClearOk_gray (x y table:Int) (d:Nat) (l:Bool) (a:Option Addr) (n cap:Nat) (f:Nat→Int) (w:World) (hC:Came w a n f) (hn:n≤1048576) (h1:1≤n) (hd:d≤16):
  Calls Tryz.prog 101 #[.agg #[.int .i64 x,.int .i64 y,.int .i64 (d:Int),.int .i64 0,.bool l],.int .i64 table,.slice a n cap] w (Flag (n=1∧Fit12 f n d) w):=by
 have HC:=hid_of hC
 have HB:=hid_of (bstart w (.cells #[.int .i64 x,.int .i64 y,.int .i64 (d:Int),.int .i64 0,.bool l] 32))
 have HX:Hid ((w.alloc (.cells #[.int .i64 x,.int .i64 y,.int .i64 (d:Int),.int .i64 0,.bool l] 32)).heap[w.heap.size]?=some (.cells #[.int .i64 x,.int .i64 y,.int .i64 (d:Int),.int .i64 0,.bool l] 32 (0,0))):=heap_alloc_new w _
 have z0:((n:Int) == 0)=false:=by simp only [beq_eq_false_iff_ne,ne_eq]; omega
 have hch:=implChannels 0
 rw[show chan 0=1 from rfl] at hch
 have hsm:=fun W (h:Came W a n f)=>samples_any a n cap d f W h hn hd
 clear hC h1
 by_cases hN:n=1
 ·have en:((n:Int) == 1)=true:=by rw [hN]; rfl
  have HN:=hid_of hN
  clear hN
  go_enter Tryz.func101,Tryz.ntmps101
  go_wp2_with fail
  generalize w.alloc (.cells #[.int .i64 x,.int .i64 y,.int .i64 (d:Int),.int .i64 0,.bool l] 32)=W1 at HX HB ⊢
  obtain⟨k0,k1,k2,k3,k4⟩:=head_cells HX.out
  have lx:=block_lt HX.out
  refine (hch W1).mono ?_
  rintro e w1 ⟨rfl,rfl⟩
  go_wp2_with fail
  refine (hsm w1 (HC.out.called HB.out)).mono ?_
  rintro e w2 ⟨b,rfl,hb,rfl⟩
  have HBB:=hid_of hb
  clear hb
  go_wp2_with fail
  go_ret
  exact⟨b,rfl,by rw [HBB.out]; exact⟨fun k=>⟨HN.out,k⟩,fun k=>k.2⟩,HB.out⟩
 ·have en:((n:Int) == 1)=false:=by simp only [beq_eq_false_iff_ne,ne_eq]; omega
  have HN:=hid_of hN
  clear hN
  go_enter Tryz.func101,Tryz.ntmps101
  go_wp2_with fail
  refine (hch _).mono ?_
  rintro e w1 ⟨rfl,rfl⟩
  go_wp2_with fail
  go_ret
  exact⟨false,rfl,by simp [HN.out],HB.out⟩
set_option maxHeartbeats 1600000 in
theorem implClearOk_full (x y table:Int) (d:Nat) (l:Bool) (a:Option Addr) (n cap:Nat) (f:Nat→Int) (w:World) (hC:Came w a n f) (hn:n≤1048576) (h1:1≤n) (hd:d≤16):
  Calls Tryz.prog 101 #[.agg #[.int .i64 x,.int .i64 y,.int .i64 (d:Int),.int .i64 2,.bool l],.int .i64 table,.slice a n cap] w (Flag (n=3∧Fit12 f n d) w):=by
 have HC:=hid_of hC
 have HB:=hid_of (bstart w (.cells #[.int .i64 x,.int .i64 y,.int .i64 (d:Int),.int .i64 2,.bool l] 32))
 have HX:Hid ((w.alloc (.cells #[.int .i64 x,.int .i64 y,.int .i64 (d:Int),.int .i64 2,.bool l] 32)).heap[w.heap.size]?=some (.cells #[.int .i64 x,.int .i64 y,.int .i64 (d:Int),.int .i64 2,.bool l] 32 (0,0))):=heap_alloc_new w _
 have z0:((n:Int) == 0)=false:=by simp only [beq_eq_false_iff_ne,ne_eq]; omega
 have hch:=implChannels 2
 rw[show chan 2=3 from rfl] at hch
 have hsm:=fun W (h:Came W a n f)=>samples_any a n cap d f W h hn hd
 clear hC h1
 by_cases hN:n=3
 ·have en:((n:Int) == 3)=true:=by rw [hN]; rfl
  have HN:=hid_of hN
  clear hN
  go_enter Tryz.func101,Tryz.ntmps101
  go_wp2_with fail
  generalize w.alloc (.cells #[.int .i64 x,.int .i64 y,.int .i64 (d:Int),.int .i64 2,.bool l] 32)=W1 at HX HB ⊢
  obtain⟨k0,k1,k2,k3,k4⟩:=head_cells HX.out
  have lx:=block_lt HX.out
  refine (hch W1).mono ?_
  rintro e w1 ⟨rfl,rfl⟩
  go_wp2_with fail
  refine (hsm w1 (HC.out.called HB.out)).mono ?_
  rintro e w2 ⟨b,rfl,hb,rfl⟩
  have HBB:=hid_of hb
  clear hb
  go_wp2_with fail
  go_ret
  exact⟨b,rfl,by rw [HBB.out]; exact⟨fun k=>⟨HN.out,k⟩,fun k=>k.2⟩,HB.out⟩
 ·have en:((n:Int) == 3)=false:=by simp only [beq_eq_false_iff_ne,ne_eq]; omega
  have HN:=hid_of hN
  clear hN
  go_enter Tryz.func101,Tryz.ntmps101
  go_wp2_with fail
  refine (hch _).mono ?_
  rintro e w1 ⟨rfl,rfl⟩
  go_wp2_with fail
  go_ret
  exact⟨false,rfl,by simp [HN.out],HB.out⟩
set_option maxHeartbeats 1600000 in
theorem implClearOk_table (x y table:Int) (d:Nat) (l:Bool) (a:Option Addr) (n cap:Nat) (f:Nat→Int) (w:World) (hC:Came w a n f) (hn:n≤1048576) (h1:1≤n):
  Calls Tryz.prog 101 #[.agg #[.int .i64 x,.int .i64 y,.int .i64 (d:Int),.int .i64 3,.bool l],.int .i64 table,.slice a n cap] w (Flag ((n:Int)≤table∧Fit12 f n 8) w):=by
 have HC:=hid_of hC
 have HB:=hid_of (bstart w (.cells #[.int .i64 x,.int .i64 y,.int .i64 (d:Int),.int .i64 3,.bool l] 32))
 have z0:((n:Int) == 0)=false:=by simp only [beq_eq_false_iff_ne,ne_eq]; omega
 have k8:((8:Nat):Int)=8:=rfl
 have hsm:=fun W (h:Came W a n f)=>samples_any a n cap 8 f W h hn (by omega)
 rw[k8] at hsm
 clear hC h1
 by_cases hN:(n:Int)≤table
 ·have HN:=hid_of hN
  have dt:decide ((n:Int)≤table)=true:=decide_eq_true hN
  clear hN
  go_enter Tryz.func101,Tryz.ntmps101
  go_wp2_with fail
  generalize w.alloc (.cells #[.int .i64 x,.int .i64 y,.int .i64 (d:Int),.int .i64 3,.bool l] 32)=W1 at HB ⊢
  refine (hsm W1 (HC.out.called HB.out)).mono ?_
  rintro e w2 ⟨b,rfl,hb,rfl⟩
  have HBB:=hid_of hb
  clear hb
  go_wp2_with fail
  go_ret
  exact⟨b,rfl,by rw [HBB.out]; exact⟨fun k=>⟨HN.out,k⟩,fun k=>k.2⟩,HB.out⟩
 ·have HN:=hid_of hN
  have dt:decide ((n:Int)≤table)=false:=decide_eq_false hN
  clear hN
  go_enter Tryz.func101,Tryz.ntmps101
  go_wp2_with fail
  go_ret
  exact⟨false,rfl,⟨(fun e=>by cases e),fun k=>absurd k.1 (by have:=HN.out; omega)⟩,HB.out⟩
theorem implClearOk_other (x y c table:Int) (d:Nat) (l:Bool) (a:Option Addr) (n cap:Nat) (w:World) (h1:1≤n) (n0:¬ c=0) (n2:¬ c=2) (n3:¬ c=3):
  Calls Tryz.prog 101 #[.agg #[.int .i64 x,.int .i64 y,.int .i64 (d:Int),.int .i64 c,.bool l],.int .i64 table,.slice a n cap] w (Flag False w):=by
 have HB:=hid_of (bstart w (.cells #[.int .i64 x,.int .i64 y,.int .i64 (d:Int),.int .i64 c,.bool l] 32))
 have z0:((n:Int) == 0)=false:=by simp only [beq_eq_false_iff_ne,ne_eq]; omega
 have c0:(c == 0)=false:=by simp only [beq_eq_false_iff_ne,ne_eq]; exact n0
 have c2:(c == 2)=false:=by simp only [beq_eq_false_iff_ne,ne_eq]; exact n2
 have c3:(c == 3)=false:=by simp only [beq_eq_false_iff_ne,ne_eq]; exact n3
 clear h1 n0 n2 n3
 go_enter Tryz.func101,Tryz.ntmps101
 go_wp2_with fail
 go_ret
 exact⟨false,rfl,by simp,HB.out⟩
theorem implClearOk (x y c table:Int) (d:Nat) (l:Bool) (a:Option Addr) (n cap:Nat) (f:Nat→Int) (w:World) (hC:Came w a n f) (hn:n≤1048576) (h1:1≤n) (hd:d≤16):
  Calls Tryz.prog 101 #[.agg #[.int .i64 x,.int .i64 y,.int .i64 (d:Int),.int .i64 c,.bool l],.int .i64 table,.slice a n cap] w (Flag (ClearR (d:Int) c table n f) w):=by
 have ed:((d:Int)).toNat=d:=Int.toNat_natCast d
 by_cases h0:c=0
 ·subst h0
  refine (implClearOk_gray x y table d l a n cap f w hC hn h1 hd).mono fun e w' h=>h.congr ?_
  unfold ClearR
  rw[ed]
  constructor
  ·rintro⟨e,k⟩
   exact⟨h1,.inl ⟨rfl,e,k⟩⟩
  ·rintro⟨_,⟨_,e,k⟩ | ⟨q,_⟩ | ⟨q,_⟩⟩
   ·exact⟨e,k⟩
   ·omega
   ·omega
 by_cases h2:c=2
 ·subst h2
  refine (implClearOk_full x y table d l a n cap f w hC hn h1 hd).mono fun e w' h=>h.congr ?_
  unfold ClearR
  rw[ed]
  constructor
  ·rintro⟨e,k⟩
   exact⟨h1,.inr (.inl ⟨rfl,e,k⟩)⟩
  ·rintro⟨_,⟨q,_⟩ | ⟨_,e,k⟩ | ⟨q,_⟩⟩
   ·omega
   ·exact⟨e,k⟩
   ·omega
 by_cases h3:c=3
 ·subst h3
  refine (implClearOk_table x y table d l a n cap f w hC hn h1).mono fun e w' h=>h.congr ?_
  unfold ClearR
  constructor
  ·rintro⟨e,k⟩
   exact⟨h1,.inr (.inr ⟨rfl,e,k⟩)⟩
  ·rintro⟨_,⟨q,_⟩ | ⟨q,_⟩ | ⟨_,e,k⟩⟩
   ·omega
   ·omega
   ·exact⟨e,k⟩
 ·refine (implClearOk_other x y c table d l a n cap w h1 h0 h2 h3).mono fun e w' h=>h.congr ?_
  unfold ClearR
  constructor
  ·exact fun k=>k.elim
  ·rintro⟨_,⟨q,_⟩ | ⟨q,_⟩ | ⟨q,_⟩⟩
   ·omega
   ·omega
   ·omega
end Go.Proofs.YtkpbfmdnjnohlaaGreat
