/-
  Texts of the proof, put together.
-/
import Derived.Test.YtcbbcadfolgioaaDoorPb02
namespace Go.Proofs.YtcbbcadfolgioaaDoor
section
open Go.RowKit Go.Joins
set_option maxHeartbeats 800000 in
theorem markIntS_own (base g n cap:Nat) (f:Nat→Int) (k:Int) (w:World) (hO:IOwn w base g n cap f) (hn:n≤1048576) (hk0:0≤k) (hk1:k≤1073741824):
  Calls Tryd.prog 54 #[.slice (some ⟨g,0,none⟩) n cap,.int .i64 k] w fun e w'=>e=.returned (.int .i64 (k+n))∧IOwn w' base g n cap (fun j=>k+j)∧w.grownBy w' (some g):=by
 have HO:Hid (IOwn w base g n cap f):=hO
 clear hO
 go_enter Tryd.func54,Tryd.ntmps54
 go_wp2_with fail
 go_loopw [1,5] (fun x i w'=>∃ (j:Nat) (h:Nat→Int),j≤n∧i=.int .i64 j∧x=.int .i64 (k+j)∧Hid (∀ i,i < j→h i=k+i)∧Hid (IOwn w' base g n cap h)∧Hid (w.grownBy w' (some g))) (fun _ i _=>n - (intOf i).toNat)
 case atStart=>exact⟨0,_,Nat.zero_le _,rfl,by simp,fun i hi=>absurd hi (Nat.not_lt_zero i),HO,⟨rfl,rfl,rfl,Nat.le_refl _,fun _ _ _=>rfl⟩⟩
 case round=>
  obtain⟨j,h,hj,rfl,rfl,hh,hOj,hBj⟩:=hrel
  by_cases hlt:j < n
  ·have c1:=hOj.out.cell j hlt
   have f1:=hOj.out.free j hlt
   have hl:=hOj.out.lt
   have HO1:Hid (IOwn (wr.setCell ⟨g,j,none⟩ (.int .i64 (k+j))) base g n cap (upd h j (k+j))):=hOj.out.set j hlt _
   have HB1:Hid (w.grownBy (wr.setCell ⟨g,j,none⟩ (.int .i64 (k+j))) (some g)):=⟨hBj.out.os,hBj.out.tape,hBj.out.output,by simpa using hBj.out.size,fun b hb hne=>(Below.heap_setCell wr ⟨g,j,none⟩ _ b (by simpa using hne)).trans (hBj.out.block b hb hne)⟩
   have HH:Hid (∀ i,i < j+1→upd h j (k+j) i=k+i):=by
    intro i hi
    unfold upd
    by_cases e:i=j
    ·rw[if_pos e,e]
    ·rw[if_neg e]; exact hh.out i (by omega)
   go_wp2_with fail
   go_roundw
   case rel=>exact⟨j+1,_,by omega,by go_num,by go_num,HH,HO1,HB1⟩
   case measure=>simp [intOf]; omega
  ·obtain rfl:j=n:=by omega
   go_wp2_with fail
   go_ret
   exact⟨rfl,hOj.out.congr hh.out,hBj.out⟩
theorem markIntS_none (a:Option Addr) (cap:Nat) (k:Int) (w:World):
  Calls Tryd.prog 54 #[.slice a 0 cap,.int .i64 k] w fun e w'=>e=.returned (.int .i64 k)∧w'=w:=by
 go_enter Tryd.func54,Tryd.ntmps54
 go_wp2_with fail
 go_loop [1,5] (fun x i=>x=.int .i64 k∧i=.int .i64 0) (fun _ _=>0)
 case atStart=>exact⟨rfl,rfl⟩
 case round=>
  obtain⟨rfl,rfl⟩:=hrel
  go_wp2_with fail
  go_ret
  exact⟨rfl,rfl⟩
set_option maxHeartbeats 800000 in
theorem heldIntS_same (a:Option Addr) (n cap:Nat) (k:Int) (w:World) (hC:Came w a n (fun j=>k+j)) (hn:n≤1048576) (hk0:0≤k) (hk1:k≤1073741824):
  Calls Tryd.prog 55 #[.slice a n cap,.int .i64 k] w fun e w'=>e=.returned (.int .i64 (k+n))∧Below w.heap.size w w':=by
 have HC:Hid (Came w a n (fun j=>k+j)):=hC
 clear hC
 go_enter Tryd.func55,Tryd.ntmps55
 go_wp2_with fail
 go_loopw [1,5] (fun x i w'=>∃ (j:Nat),j≤n∧i=.int .i64 j∧x=.int .i64 (k+j)∧Hid (Below w.heap.size w w')) (fun _ i _=>n - (intOf i).toNat)
 case atStart=>exact⟨0,Nat.zero_le _,rfl,by simp,Below.refl _ _⟩
 case round=>
  obtain⟨j,hj,rfl,rfl,hBj⟩:=hrel
  by_cases hlt:j < n
  ·rcases HC.out with h0 | ⟨g,off,rfl,hg,hc⟩
   ·omega
   ·have k0:wr.cell? ⟨g,off+j,none⟩=some (.int .i64 (k+j)):=(hBj.out.cell (p:=⟨g,off+j,none⟩) hg).trans (hc j hlt)
    have l0:g < wr.heap.size:=Nat.lt_of_lt_of_le hg hBj.out.size
    clear hc
    go_wp2_with fail
    go_roundw
    case rel=>exact⟨j+1,by omega,by go_num,by go_num,hBj.out⟩
    case measure=>simp [intOf]; omega
  ·obtain rfl:j=n:=by omega
   go_wp2_with fail
   go_ret
   exact⟨rfl,hBj.out⟩
end
section
open Go.RowKit Go.Joins
theorem szIntS_any (a:Option Addr) (n cap:Nat) (l:Int) (w:World) (h0:0≤l) (h1:l≤1048576) (hn:n≤maxLen):
  Calls Tryd.prog 49 #[.slice a n cap,.int .i64 l] w fun e w'=>e=.returned (.int .i64 (if (n:Int)≤l then l - n else -1))∧w'=w:=by
 unfold maxLen at hn
 by_cases h:(n:Int)≤l
 ·rw[if_pos h]
  have d:decide (l - (n:Int) < 0)=false:=decide_eq_false (by omega)
  go_enter Tryd.func49,Tryd.ntmps49
  go_wp2_with fail
  go_ret
  exact⟨rfl,rfl⟩
 ·rw[if_neg h]
  have d:decide (l - (n:Int) < 0)=true:=decide_eq_true (by omega)
  go_enter Tryd.func49,Tryd.ntmps49
  go_wp2_with fail
  go_ret
  exact⟨rfl,rfl⟩
theorem szRaster_any (x0 x1 x2 x3:Int) (a:Option Addr) (n cap:Nat) (l:Int) (w:World) (h0:0≤l) (h1:l≤1048576) (hn:n≤maxLen):
  Calls Tryd.prog 18 #[.agg #[.int .i64 x0,.int .i64 x1,.int .i64 x2,.int .i64 x3,.slice a n cap],.int .i64 l] w fun e w'=>e=.returned (.int .i64 (if (n:Int)≤l then l - n else -1))∧Below w.heap.size w w':=by
 have hs:=fun W=>szIntS_any a n cap l W h0 h1 hn
 have hB:=hid_of (bstart w (.cells #[.int .i64 x0,.int .i64 x1,.int .i64 x2,.int .i64 x3,.slice a n cap] 41))
 unfold maxLen at hn
 by_cases h:(n:Int)≤l
 ·rw[if_pos h] at hs ⊢
  have d:decide (l - (n:Int) < 0)=false:=decide_eq_false (by omega)
  go_enter Tryd.func18,Tryd.ntmps18
  go_wp2_with fail
  refine (hs _).mono ?_
  rintro e w1 ⟨rfl,rfl⟩
  go_wp2_with fail
  go_ret
  exact⟨rfl,hB.out⟩
 ·rw[if_neg h] at hs ⊢
  go_enter Tryd.func18,Tryd.ntmps18
  go_wp2_with fail
  refine (hs _).mono ?_
  rintro e w1 ⟨rfl,rfl⟩
  go_wp2_with fail
  go_ret
  exact⟨rfl,hB.out⟩
def RasCopy (x0 x1 x2 x3:Int) (n:Nat) (f:Nat→Int) (w:World) (e:Ending) (w':World):Prop:=∃ g,e=.returned (.agg #[.int .i64 x0,.int .i64 x1,.int .i64 x2,.int .i64 x3,.slice (some ⟨g,0,none⟩) n n])∧IOwn w' w.heap.size g n n f∧Below w.heap.size w w'
set_option maxHeartbeats 1600000 in
theorem toRaster_any (x0 x1 x2 x3:Int) (a:Option Addr) (n cap:Nat) (f:Nat→Int) (w:World) (hC:Came w a n f) (hn:n≤1048576):
  Calls Tryd.prog 20 #[.agg #[.int .i64 x0,.int .i64 x1,.int .i64 x2,.int .i64 x3,.slice a n cap]] w (RasCopy x0 x1 x2 x3 n f w):=by
 have HC:=hid_of hC
 clear hC
 go_enter Tryd.func20,Tryd.ntmps20
 go_wp2_with fail
 have HB0:Hid (Below w.heap.size w (((w.alloc (.cells #[.int .i64 x0,.int .i64 x1,.int .i64 x2,.int .i64 x3,.slice a n cap] 41)).alloc (.cells #[.int .i64 0,.int .i64 0,.int .i64 0,.int .i64 0,.slice none 0 0] 26)).alloc (.cells #[.int .i64 x0,.int .i64 x1,.int .i64 x2,.int .i64 x3,.slice none 0 0] 26))):=bal (bal (bstart _ _) _) _
 have HS0:Hid ((((w.alloc (.cells #[.int .i64 x0,.int .i64 x1,.int .i64 x2,.int .i64 x3,.slice a n cap] 41)).alloc (.cells #[.int .i64 0,.int .i64 0,.int .i64 0,.int .i64 0,.slice none 0 0] 26)).alloc (.cells #[.int .i64 x0,.int .i64 x1,.int .i64 x2,.int .i64 x3,.slice none 0 0] 26)).heap.size=w.heap.size+3):=by
  show _=_
  simp
 have HR1:Hid ((((w.alloc (.cells #[.int .i64 x0,.int .i64 x1,.int .i64 x2,.int .i64 x3,.slice a n cap] 41)).alloc (.cells #[.int .i64 0,.int .i64 0,.int .i64 0,.int .i64 0,.slice none 0 0] 26)).alloc (.cells #[.int .i64 x0,.int .i64 x1,.int .i64 x2,.int .i64 x3,.slice none 0 0] 26)).heap[w.heap.size+1]?=some (.cells #[.int .i64 0,.int .i64 0,.int .i64 0,.int .i64 0,.slice none 0 0] 26 (0,0))):=by
  show (((w.heap.push _).push _).push _)[w.heap.size+1]?=_
  rw[Array.getElem?_push,if_neg (by simp),Array.getElem?_push,if_pos (by simp)]
 have HR2:Hid ((((w.alloc (.cells #[.int .i64 x0,.int .i64 x1,.int .i64 x2,.int .i64 x3,.slice a n cap] 41)).alloc (.cells #[.int .i64 0,.int .i64 0,.int .i64 0,.int .i64 0,.slice none 0 0] 26)).alloc (.cells #[.int .i64 x0,.int .i64 x1,.int .i64 x2,.int .i64 x3,.slice none 0 0] 26)).heap[w.heap.size+1+1]?=some (.cells #[.int .i64 x0,.int .i64 x1,.int .i64 x2,.int .i64 x3,.slice none 0 0] 26 (0,0))):=by
  show (((w.heap.push _).push _).push _)[w.heap.size+1+1]?=_
  rw[Array.getElem?_push,if_pos (by simp)]
 generalize ((w.alloc (.cells #[.int .i64 x0,.int .i64 x1,.int .i64 x2,.int .i64 x3,.slice a n cap] 41)).alloc (.cells #[.int .i64 0,.int .i64 0,.int .i64 0,.int .i64 0,.slice none 0 0] 26)).alloc (.cells #[.int .i64 x0,.int .i64 x1,.int .i64 x2,.int .i64 x3,.slice none 0 0] 26)=W3 at HB0 HS0 HR1 HR2 ⊢
 refine (toIntS_any a n cap f W3 (HC.out.called HB0.out) hn).mono ?_
 rintro e w4 ⟨rfl,hO4,hB4⟩
 have q1:w4.heap[w.heap.size+1]?=some (.cells #[.int .i64 0,.int .i64 0,.int .i64 0,.int .i64 0,.slice none 0 0] 26 (0,0)):=(hB4.block _ (by rw [HS0.out]; omega)).trans HR1.out
 have q2:w4.heap[w.heap.size+1+1]?=some (.cells #[.int .i64 x0,.int .i64 x1,.int .i64 x2,.int .i64 x3,.slice none 0 0] 26 (0,0)):=(hB4.block _ (by rw [HS0.out]; omega)).trans HR2.out
 rw[HS0.out] at hO4 ⊢
 have HO4:=hid_of hO4
 have HB4:=hid_of (bnext HB0.out hB4)
 have c0:w4.cell? ⟨w.heap.size+1+1,0,none⟩=some (.int .i64 x0):=(cell_of_block q2 0).trans rfl
 have c1:w4.cell? ⟨w.heap.size+1+1,1,none⟩=some (.int .i64 x1):=(cell_of_block q2 1).trans rfl
 have c2:w4.cell? ⟨w.heap.size+1+1,2,none⟩=some (.int .i64 x2):=(cell_of_block q2 2).trans rfl
 have c3:w4.cell? ⟨w.heap.size+1+1,3,none⟩=some (.int .i64 x3):=(cell_of_block q2 3).trans rfl
 have c4:w4.cell? ⟨w.heap.size+1+1,4,none⟩=some (.slice none 0 0):=(cell_of_block q2 4).trans rfl
 have b0:w4.cell? ⟨w.heap.size+1,0,none⟩=some (.int .i64 0):=(cell_of_block q1 0).trans rfl
 have b1:w4.cell? ⟨w.heap.size+1,1,none⟩=some (.int .i64 0):=(cell_of_block q1 1).trans rfl
 have b2:w4.cell? ⟨w.heap.size+1,2,none⟩=some (.int .i64 0):=(cell_of_block q1 2).trans rfl
 have b3:w4.cell? ⟨w.heap.size+1,3,none⟩=some (.int .i64 0):=(cell_of_block q1 3).trans rfl
 have b4:w4.cell? ⟨w.heap.size+1,4,none⟩=some (.slice none 0 0):=(cell_of_block q1 4).trans rfl
 have cf:∀ q,w4.frozen? ⟨w.heap.size+1+1,q,none⟩=false:=fun q=>by simp [World.frozen?,q2]
 have bf:∀ q,w4.frozen? ⟨w.heap.size+1,q,none⟩=false:=fun q=>by simp [World.frozen?,q1]
 have l1:=block_lt q1
 have l2:=block_lt q2
 clear q1 q2 hO4 hB4
 go_wp2_with fail
 refine bodyPost_ret (v:=.agg #[.int .i64 x0,.int .i64 x1,.int .i64 x2,.int .i64 x3,.slice (some ⟨w.heap.size+3,0,none⟩) n n]) ?_ rfl ⟨_,rfl,?_,?_⟩
 ·simp[results,Tryd.results20,go_sem, *]
 ·refine (HO4.out.mono (by omega)).keep ?_
  repeat' rw [Below.heap_setCell _ _ _ _ (by first | (simp; done) | (simp; omega))]
 ·repeat' refine Below.setCell ?_ (by first | (simp; done) | (simp; omega)) _
  exact HB4.out
set_option maxHeartbeats 1600000 in
theorem eqRaster_same (x0 x1 x2 x3:Int) (a b:Option Addr) (n c1 c2:Nat) (f:Nat→Int) (w:World) (ha:Came w a n f) (hb:Came w b n f) (hn:n≤1048576):
  Calls Tryd.prog 22 #[.agg #[.int .i64 x0,.int .i64 x1,.int .i64 x2,.int .i64 x3,.slice a n c1],.agg #[.int .i64 x0,.int .i64 x1,.int .i64 x2,.int .i64 x3,.slice b n c2]] w fun e w'=>e=.returned (.bool true)∧Below w.heap.size w w':=by
 have HA:=hid_of ha
 have HB:=hid_of hb
 clear ha hb
 have n0:(x0 != x0)=false:=by simp
 have n1:(x1 != x1)=false:=by simp
 have n2:(x2 != x2)=false:=by simp
 have n3:(x3 != x3)=false:=by simp
 go_enter Tryd.func22,Tryd.ntmps22
 go_wp2_with fail
 have HB0:Hid (Below w.heap.size w ((w.alloc (.cells #[.int .i64 x0,.int .i64 x1,.int .i64 x2,.int .i64 x3,.slice a n c1] 26)).alloc (.cells #[.int .i64 x0,.int .i64 x1,.int .i64 x2,.int .i64 x3,.slice b n c2] 26))):=bal (bstart _ _) _
 refine (eqIntS_same a b n c1 c2 f _ (HA.out.called HB0.out) (HB.out.called HB0.out) hn).mono ?_
 rintro e w1 ⟨rfl,hB1⟩
 have HB1:=hid_of (bnext HB0.out hB1)
 clear hB1
 go_wp2_with fail
 go_ret
 exact⟨rfl,HB1.out⟩
end
section
theorem if_wanted {c A E:Prop} [Decidable c] (hc:c) (h:A):if c then A else E:=by rw [if_pos hc]; exact h
theorem wanted_none {o:Oper} {y:Nat→Option Bool} (h:o.guard=none):Region.wanted o y=true:=by simp [Region.wanted,h]
end
end Go.Proofs.YtcbbcadfolgioaaDoor
