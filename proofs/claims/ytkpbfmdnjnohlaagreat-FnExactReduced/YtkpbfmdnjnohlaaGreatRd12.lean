/-
  Texts of the proof, put together.
-/
import Derived.Test.YtkpbfmdnjnohlaaGreatRd08
import Derived.Test.YtkpbfmdnjnohlaaGreatRd11
namespace Go.Proofs.YtkpbfmdnjnohlaaGreat
open Go.RowKit Go.Joins OutMath RastMath BigTextMath HeadMath
set_option maxRecDepth 100000 in
set_option maxHeartbeats 1600000 in
theorem specClear_none (x y c:Int) (tn d:Nat) (l:Bool) (a:Option Addr) (cap:Nat) (w:World) (hd:d≤16):
  Calls Tryz.prog 93 #[.agg #[.int .i64 x,.int .i64 y,.int .i64 (d:Int),.int .i64 c,.bool l],.int .i64 (tn:Int),.slice a 0 cap] w fun e w'=>e=.returned (.bool true)∧Below w.heap.size w w':=by
 have HB:=hid_of (bstart w (.cells #[.int .i64 x,.int .i64 y,.int .i64 (d:Int),.int .i64 c,.bool l] 32))
 have HX:Hid ((w.alloc (.cells #[.int .i64 x,.int .i64 y,.int .i64 (d:Int),.int .i64 c,.bool l] 32)).heap[w.heap.size]?=some (.cells #[.int .i64 x,.int .i64 y,.int .i64 (d:Int),.int .i64 c,.bool l] 32 (0,0))):=heap_alloc_new w _
 have hdp:=fun W=>specDepth17 x y c d l W hd
 have hpw:=fun W=>pow_any d W (by omega)
 have hpp:=p2_pos d
 have hp16:p2 d≤65536:=by
  have:=p2_le (show d≤16 by omega)
  rw[show p2 16=65536 by decide +kernel] at this
  exact this
 generalize p2 d=P at hpw hpp hp16
 have wp:IntKind.i64.wrap (P - 1)=P - 1:=by rw [IntKind.wrap_i64]; omega
 by_cases h0:c=0
 ·subst h0
  go_enter Tryz.func93,Tryz.ntmps93
  go_wp2_with fail
  generalize w.alloc (.cells #[.int .i64 x,.int .i64 y,.int .i64 (d:Int),.int .i64 0,.bool l] 32)=W1 at HX HB ⊢
  refine (hdp W1).mono ?_
  rintro e w1 ⟨rfl,hB1⟩
  have HX1:=hid_of ((hB1.block _ (block_lt HX.out)).trans HX.out)
  have HB1:=hid_of (bnext HB.out hB1)
  clear hB1 HX HB hdp
  go_wp2_with fail
  refine (hpw w1).mono ?_
  rintro e w2 ⟨rfl,rfl⟩
  go_wp2_with fail
  go_ret
  exact⟨rfl,HB1.out⟩
 by_cases h2:c=2
 ·subst h2
  go_enter Tryz.func93,Tryz.ntmps93
  go_wp2_with fail
  generalize w.alloc (.cells #[.int .i64 x,.int .i64 y,.int .i64 (d:Int),.int .i64 2,.bool l] 32)=W1 at HX HB ⊢
  refine (hdp W1).mono ?_
  rintro e w1 ⟨rfl,hB1⟩
  have HX1:=hid_of ((hB1.block _ (block_lt HX.out)).trans HX.out)
  have HB1:=hid_of (bnext HB.out hB1)
  clear hB1 HX HB hdp
  go_wp2_with fail
  refine (hpw w1).mono ?_
  rintro e w2 ⟨rfl,rfl⟩
  go_wp2_with fail
  go_ret
  exact⟨rfl,HB1.out⟩
 by_cases h3:c=3
 ·subst h3
  have dt:decide ((tn:Int) < 0)=false:=decide_eq_false (by omega)
  clear hdp hpw hpp hp16 wp
  go_enter Tryz.func93,Tryz.ntmps93
  go_wp2_with fail
  go_ret
  exact⟨rfl,HB.out⟩
 ·have c0:(c == 0)=false:=by simp only [beq_eq_false_iff_ne,ne_eq]; exact h0
  have c2:(c == 2)=false:=by simp only [beq_eq_false_iff_ne,ne_eq]; exact h2
  have c3:(c == 3)=false:=by simp only [beq_eq_false_iff_ne,ne_eq]; exact h3
  clear hdp hpw hpp hp16 wp h0 h2 h3
  go_enter Tryz.func93,Tryz.ntmps93
  go_wp2_with fail
  go_ret
  exact⟨rfl,HB.out⟩
set_option maxRecDepth 100000 in
set_option maxHeartbeats 1600000 in
theorem implClear_none (x y c:Int) (tn d:Nat) (l:Bool) (a:Option Addr) (cap:Nat) (w:World):
  Calls Tryz.prog 101 #[.agg #[.int .i64 x,.int .i64 y,.int .i64 (d:Int),.int .i64 c,.bool l],.int .i64 (tn:Int),.slice a 0 cap] w fun e w'=>e=.returned (.bool true)∧Below w.heap.size w w':=by
 have HB:=hid_of (bstart w (.cells #[.int .i64 x,.int .i64 y,.int .i64 (d:Int),.int .i64 c,.bool l] 32))
 go_enter Tryz.func101,Tryz.ntmps101
 go_wp2_with fail
 go_ret
 exact⟨rfl,HB.out⟩
def ClrnPost (d c:Int) (tn cn:Nat) (C:Nat→Int) (w:World) (e:Ending) (w':World):Prop:=∃ b,e=.returned (.bool b)∧(b=true↔ClrR d c tn cn C)∧Below w.heap.size w w'
theorem specClr (x y c:Int) (tn:Nat) (d:Nat) (l:Bool) (a:Option Addr) (n cap:Nat) (C:Nat→Int) (w:World) (hC:Came w a n C) (hn:n≤1048576) (hd:d≤16):
  Calls Tryz.prog 93 #[.agg #[.int .i64 x,.int .i64 y,.int .i64 (d:Int),.int .i64 c,.bool l],.int .i64 (tn:Int),.slice a n cap] w (ClrnPost (d:Int) c tn n C w):=by
 rcases Nat.eq_zero_or_pos n with rfl | h1
 ·exact (specClear_none x y c tn d l a cap w hd).mono fun e w' ⟨h,b⟩=>⟨true,h,⟨fun _=>.inl rfl,fun _=>rfl⟩,b⟩
 ·exact (specClearOk x y c tn d l a n cap C w hC hn h1 hd).mono fun e w' ⟨b,h,k,bel⟩=>⟨b,h,k.trans ⟨.inr,fun q=>q.resolve_left (by omega)⟩,bel⟩
theorem implClr (x y c:Int) (tn:Nat) (d:Nat) (l:Bool) (a:Option Addr) (n cap:Nat) (C:Nat→Int) (w:World) (hC:Came w a n C) (hn:n≤1048576) (hd:d≤16):
  Calls Tryz.prog 101 #[.agg #[.int .i64 x,.int .i64 y,.int .i64 (d:Int),.int .i64 c,.bool l],.int .i64 (tn:Int),.slice a n cap] w (ClrnPost (d:Int) c tn n C w):=by
 rcases Nat.eq_zero_or_pos n with rfl | h1
 ·exact (implClear_none x y c tn d l a cap w).mono fun e w' ⟨h,b⟩=>⟨true,h,⟨fun _=>.inl rfl,fun _=>rfl⟩,b⟩
 ·exact (implClearOk x y c tn d l a n cap C w hC hn h1 hd).mono fun e w' ⟨b,h,k,bel⟩=>⟨b,h,k.trans ⟨.inr,fun q=>q.resolve_left (by omega)⟩,bel⟩
end Go.Proofs.YtkpbfmdnjnohlaaGreat
