/-
  Texts of the proof, put together.
-/
import Derived.Test.YtkpbfmdnjnohlaaGreatGk12
import Derived.Deep.RegionHeld3
namespace Go.Proofs.YtkpbfmdnjnohlaaGreat
section
open Go.RowKit Go.Joins
structure Ras where
 x0:Int
 x1:Int
 x2:Int
 x3:Int
 n:Nat
 f:Nat→Int
def Ras.same (r s:Ras):Prop:=r.x0=s.x0∧r.x1=s.x1∧r.x2=s.x2∧r.x3=s.x3∧r.n=s.n∧∀ i,i < r.n→r.f i=s.f i
theorem Ras.same.refl (r:Ras):r.same r:=⟨rfl,rfl,rfl,rfl,rfl,fun _ _=>rfl⟩
theorem Ras.same.symm {r s:Ras} (h:r.same s):s.same r:=⟨h.1.symm,h.2.1.symm,h.2.2.1.symm,h.2.2.2.1.symm,h.2.2.2.2.1.symm,fun i hi=>(h.2.2.2.2.2 i (by rw [h.2.2.2.2.1]; exact hi)).symm⟩
theorem Ras.same.trans {r s t:Ras} (h:r.same s) (k:s.same t):r.same t:=⟨h.1.trans k.1,h.2.1.trans k.2.1,h.2.2.1.trans k.2.2.1,h.2.2.2.1.trans k.2.2.2.1,h.2.2.2.2.1.trans k.2.2.2.2.1,fun i hi=>(h.2.2.2.2.2 i hi).trans (k.2.2.2.2.2 i (by rw [← h.2.2.2.2.1]; exact hi))⟩
theorem Came.congr14 {w:World} {a:Option Addr} {n:Nat} {f f':Nat→Int} (h:Came w a n f) (e:∀ i,i < n→f i=f' i):Came w a n f':=by
 rcases h with h | ⟨g,off,ha,hg,hc⟩
 ·exact .inl h
 ·exact .inr ⟨g,off,ha,hg,fun j hj=>by rw [← e j hj]; exact hc j hj⟩
theorem Came.same {w:World} {a:Option Addr} {r s:Ras} (h:Came w a r.n r.f) (e:r.same s):Came w a s.n s.f:=by
 rw[← e.2.2.2.2.1]
 exact h.congr14 e.2.2.2.2.2
section
variable {w w':World} {base g m:Nat} {R S:Nat→Ras} {A:Nat→Option Addr} {G C:Nat→Nat}
end
end
section
open Go.RowKit Go.Joins
theorem grown_of_alloc {w w':World} {o:Obj} {row:Option Nat} (h:(w.alloc o).grownBy w' row):w.grownBy w' row:=
 ⟨h.os,h.tape,h.output,Nat.le_trans (by simp) h.size,fun k hk hne=>(h.block k (by simp; omega) hne).trans (Below.heap_alloc w o k hk)⟩
theorem markRaster_own (x0 x1 x2 x3:Int) (base g n cap:Nat) (f:Nat→Int) (k:Int) (w:World) (hO:IOwn w base g n cap f) (hn:n≤1048576) (h0:0≤k) (h1:k≤1073741824):
  Calls Tryz.prog 48 #[.agg #[.int .i64 x0,.int .i64 x1,.int .i64 x2,.int .i64 x3,.slice (some ⟨g,0,none⟩) n cap],.int .i64 k] w fun e w'=>e=.returned (.int .i64 (k+n))∧w.grownBy w' (some g):=by
 have HO:=hid_of hO
 clear hO
 go_enter Tryz.func48,Tryz.ntmps48
 go_wp2_with fail
 refine (markIntS_own base g n cap f k _ (HO.out.alloc _) hn h0 h1).mono ?_
 rintro e w2 ⟨rfl,_,hg⟩
 have HG:=hid_of (grown_of_alloc hg)
 clear hg
 go_wp2_with fail
 go_ret
 exact⟨rfl,HG.out⟩
theorem markRaster_mine (x0 x1 x2 x3:Int) (base g n cap:Nat) (f:Nat→Int) (k:Int) (w:World) (hO:IOwn w base g n cap f) (hn:n≤1048576) (h0:0≤k) (h1:k≤1073741824):
  Calls Tryz.prog 48 #[.agg #[.int .i64 x0,.int .i64 x1,.int .i64 x2,.int .i64 x3,.slice (some ⟨g,0,none⟩) n cap],.int .i64 k] w fun e w'=>e=.returned (.int .i64 (k+n))∧IOwn w' base g n cap (fun j=>k+j)∧w.grownBy w' (some g):=by
 have HO:=hid_of hO
 clear hO
 go_enter Tryz.func48,Tryz.ntmps48
 go_wp2_with fail
 refine (markIntS_own base g n cap f k _ (HO.out.alloc _) hn h0 h1).mono ?_
 rintro e w2 ⟨rfl,hO2,hg⟩
 have HG:=hid_of (And.intro hO2 (grown_of_alloc hg))
 clear hg hO2
 go_wp2_with fail
 go_ret
 exact⟨rfl,HG.out⟩
theorem markRaster_none (x0 x1 x2 x3:Int) (a:Option Addr) (cap:Nat) (k:Int) (w:World):
  Calls Tryz.prog 48 #[.agg #[.int .i64 x0,.int .i64 x1,.int .i64 x2,.int .i64 x3,.slice a 0 cap],.int .i64 k] w fun e w'=>e=.returned (.int .i64 k)∧Below w.heap.size w w':=by
 go_enter Tryz.func48,Tryz.ntmps48
 go_wp2_with fail
 refine (markIntS_none a cap k _).mono ?_
 rintro e w2 ⟨rfl,rfl⟩
 go_wp2_with fail
 go_ret
 exact⟨rfl,bstart _ _⟩
theorem heldRaster_same (x0 x1 x2 x3:Int) (a:Option Addr) (n cap:Nat) (k:Int) (w:World) (hC:Came w a n (fun j=>k+j)) (hn:n≤1048576) (h0:0≤k) (h1:k≤1073741824):
  Calls Tryz.prog 52 #[.agg #[.int .i64 x0,.int .i64 x1,.int .i64 x2,.int .i64 x3,.slice a n cap],.int .i64 k] w fun e w'=>e=.returned (.int .i64 (k+n))∧Below w.heap.size w w':=by
 have HC:=hid_of hC
 have dk:decide (k+(n:Int) < 0)=false:=decide_eq_false (by omega)
 clear hC
 go_enter Tryz.func52,Tryz.ntmps52
 go_wp2_with fail
 have HB:=hid_of (bstart w (.cells #[.int .i64 x0,.int .i64 x1,.int .i64 x2,.int .i64 x3,.slice a n cap] 34))
 generalize w.alloc (.cells #[.int .i64 x0,.int .i64 x1,.int .i64 x2,.int .i64 x3,.slice a n cap] 34)=W1 at HB ⊢
 refine (heldIntS_same a n cap k W1 (HC.out.called HB.out) hn h0 h1).mono ?_
 rintro e w2 ⟨rfl,hB2⟩
 have HB2:=hid_of (bnext HB.out hB2)
 clear hB2
 go_wp2_with fail
 go_ret
 exact⟨rfl,HB2.out⟩
end
end Go.Proofs.YtkpbfmdnjnohlaaGreat
