/-
  Texts of the proof, put together.
-/
import Derived.Test.YtcbbcadfolgioaaDoorPf07
namespace Go.Proofs.YtcbbcadfolgioaaDoor
section
open Go.RowKit Go.Joins RastMath
theorem beq_of1 {a b:Int} (h:a=b):(a == b)=true:=by simpa using h
theorem beq_no1 {a b:Int} (h:¬ a=b):(a == b)=false:=by simpa using h
def IdxPost (f:Nat→Int) (n:Nat) (x:Int) (w:World) (e:Ending) (w':World):Prop:=∃ z:Int,e=.returned (.int .i64 z)∧(0≤z↔∃ i,i < n∧f i=x)∧w'=w
set_option maxHeartbeats 800000 in
theorem index_any (a:Option Addr) (n cap:Nat) (f:Nat→Int) (x:Int) (w:World) (hC:Came w a n f) (hn:n≤1048576):
  Calls Tryd.prog 113 #[.slice a n cap,.int .i64 x] w (IdxPost f n x w):=by
 have HC:=hid_of hC
 clear hC
 go_enter Tryd.func113,Tryd.ntmps113
 go_wp2_with fail
 go_loop [8] (fun i=>∃ j:Nat,j≤n∧i=.int .i64 j∧Hid (∀ i,i < j→¬ f i=x)) (fun i=>n - (intOf i).toNat)
 case atStart=>exact⟨0,Nat.zero_le _,rfl,fun i hi=>absurd hi (Nat.not_lt_zero i)⟩
 case round=>
  obtain⟨j,hj,rfl,hok⟩:=hrel
  by_cases hlt:j < n
  ·rcases HC.out with h0 | ⟨g,off,rfl,hg,hc⟩
   ·omega
   ·have c0:=hc j hlt
    clear hc
    by_cases hin:f j=x
    ·have HK:Hid (∃ i,i < n∧f i=x):=⟨j,hlt,hin⟩
     have d0:(x == f j)=true:=beq_of1 hin.symm
     clear hin
     go_wp2_with fail
     go_ret
     exact⟨(j:Int),rfl,⟨fun _=>HK.out,fun _=>by omega⟩,rfl⟩
    ·have HN:Hid (∀ i,i < j+1→¬ f i=x):=fun i hi=>by
      by_cases e:i=j
      ·rw[e]; exact hin
      ·exact hok.out i (by omega)
     have d0:(x == f j)=false:=beq_no1 fun h=>hin h.symm
     clear hin
     go_wp2_with fail
     go_round
     case rel=>exact⟨j+1,by omega,by go_num,HN⟩
     case measure=>simp [intOf]; omega
  ·obtain rfl:j=n:=by omega
   go_wp2_with fail
   go_ret
   exact⟨-1,rfl,⟨fun h=>absurd h (by omega),fun ⟨i,hi,h⟩=>absurd h (hok.out i hi)⟩,rfl⟩
def ContPost (f:Nat→Int) (n:Nat) (x:Int) (w:World) (e:Ending) (w':World):Prop:=e=.returned (.bool (decide (∃ i,i < n∧f i=x)))∧w'=w
theorem contains_any (a:Option Addr) (n cap:Nat) (f:Nat→Int) (x:Int) (w:World) (hC:Came w a n f) (hn:n≤1048576):
  Calls Tryd.prog 104 #[.slice a n cap,.int .i64 x] w (ContPost f n x w):=by
 have h:=index_any a n cap f x w hC hn
 clear hC
 go_enter Tryd.func104,Tryd.ntmps104
 go_wp2_with fail
 refine h.mono ?_
 rintro e w1 ⟨z,rfl,hz,rfl⟩
 have hd:decide (0≤z)=decide (∃ i,i < n∧f i=x):=decide_eq_decide.mpr hz
 have HD:=hid_of hd
 clear hz hd h
 go_wp2_with fail
 go_ret
 refine⟨?_,rfl⟩
 rw[HD.out]
 rfl
def fiveL (i:Nat):Int:=[1,2,4,8,16].getD i 0
theorem five_has (d:Int):(∃ i,i < 5∧fiveL i=d)↔Five d:=by
 unfold Five fiveL
 constructor
 ·rintro⟨i,hi,rfl⟩
  match i,hi with
  | 0,_=>simp
  | 1,_=>simp
  | 2,_=>simp
  | 3,_=>simp
  | 4,_=>simp
  | k+5,hk=>omega
 ·rintro (rfl | rfl | rfl | rfl | rfl)
  ·exact⟨0,by omega,rfl⟩
  ·exact⟨1,by omega,rfl⟩
  ·exact⟨2,by omega,rfl⟩
  ·exact⟨3,by omega,rfl⟩
  ·exact⟨4,by omega,rfl⟩
theorem isDepth_any (d:Int) (w:World):Calls Tryd.prog 90 #[.int .i64 d] w fun e w'=>e=.returned (.bool (decide (Five d)))∧Below w.heap.size w w':=by
 have h:Hid (∀ W:World,W=w.alloc (.cells #[.int .i64 1,.int .i64 2,.int .i64 4,.int .i64 8,.int .i64 16] 3)→Calls Tryd.prog 104 #[.slice (some ⟨w.heap.size,0,none⟩) 5 5,.int .i64 d] W fun e w'=>e=.returned (.bool (decide (Five d)))∧w'=W):=by
  rintro W rfl
  have hc:Came (w.alloc (.cells #[.int .i64 1,.int .i64 2,.int .i64 4,.int .i64 8,.int .i64 16] 3)) (some ⟨w.heap.size,0,none⟩) 5 fiveL:=by
   refine .inr ⟨w.heap.size,0,rfl,by simp,fun j hj=>?_⟩
   rw[Nat.zero_add,cell_of_block (heap_alloc_new w _) j]
   match j,hj with
   | 0,_=>rfl
   | 1,_=>rfl
   | 2,_=>rfl
   | 3,_=>rfl
   | 4,_=>rfl
   | k+5,hk=>omega
  refine (contains_any (some ⟨w.heap.size,0,none⟩) 5 5 fiveL d _ hc (by omega)).mono ?_
  rintro e w' ⟨rfl,rfl⟩
  refine⟨?_,rfl⟩
  rw[decide_eq_decide.mpr (five_has d)]
 have hB:=hid_of (bstart w (.cells #[.int .i64 1,.int .i64 2,.int .i64 4,.int .i64 8,.int .i64 16] 3))
 generalize decide (Five d)=b at h ⊢
 go_enter Tryd.func90,Tryd.ntmps90
 go_wp2_with fail
 refine (h.out _ rfl).mono ?_
 rintro e w1 ⟨rfl,rfl⟩
 go_wp2_with fail
 go_ret
 exact⟨rfl,hB.out⟩
theorem isSide_any (n:Int) (w:World):Calls Tryd.prog 38 #[.int .i64 n] w fun e w'=>e=.returned (.bool (decide (SideR n)))∧w'=w:=by
 by_cases h1:1≤n
 ·have d1:decide (1≤n)=true:=decide_eq_true h1
  have hh:decide (SideR n)=decide (n≤24):=decide_eq_decide.mpr ⟨fun h=>h.2,fun h=>⟨h1,h⟩⟩
  rw[hh]
  clear h1 hh
  generalize hb:decide (n≤24)=b
  go_enter Tryd.func38,Tryd.ntmps38
  go_wp2_with fail
  go_ret
  exact⟨rfl,rfl⟩
 ·have d1:decide (1≤n)=false:=decide_eq_false h1
  rw[decide_eq_false (fun h:SideR n=>h1 h.1)]
  clear h1
  go_enter Tryd.func38,Tryd.ntmps38
  go_wp2_with fail
  go_ret
  exact⟨rfl,rfl⟩
theorem rowFor_any (c:Int) (w:World) (h1:0≤c) (h2:c≤100000000):
  Calls Tryd.prog 99 #[.int .i64 c] w fun e w'=>e=.returned (.int .i64 ((c+7) / 8))∧w'=w:=by
 go_enter Tryd.func99,Tryd.ntmps99
 go_wp2_with fail
 go_ret
 exact⟨rfl,rfl⟩
theorem implChannels (c:Int) (w:World):Calls Tryd.prog 80 #[.int .i64 c] w fun e w'=>e=.returned (.int .i64 (chan c))∧w'=w:=by
 unfold chan
 by_cases h0:c=0
 ·subst h0
  go_enter Tryd.func80,Tryd.ntmps80
  go_wp2_with fail
  go_ret
  exact⟨rfl,rfl⟩
 by_cases h3:c=3
 ·subst h3
  go_enter Tryd.func80,Tryd.ntmps80
  go_wp2_with fail
  go_ret
  exact⟨rfl,rfl⟩
 by_cases h2:c=2
 ·subst h2
  go_enter Tryd.func80,Tryd.ntmps80
  go_wp2_with fail
  go_ret
  exact⟨rfl,rfl⟩
 by_cases h4:c=4
 ·subst h4
  go_enter Tryd.func80,Tryd.ntmps80
  go_wp2_with fail
  go_ret
  exact⟨rfl,rfl⟩
 by_cases h6:c=6
 ·subst h6
  go_enter Tryd.func80,Tryd.ntmps80
  go_wp2_with fail
  go_ret
  exact⟨rfl,rfl⟩
 rw[if_neg (by omega),if_neg h2,if_neg h4,if_neg h6]
 have b0:=beq_no1 h0
 have b3:=beq_no1 h3
 have b2:=beq_no1 h2
 have b4:=beq_no1 h4
 have b6:=beq_no1 h6
 go_enter Tryd.func80,Tryd.ntmps80
 go_wp2_with fail
 go_ret
 exact⟨rfl,rfl⟩
theorem implDepth (c d:Int) (w:World):Calls Tryd.prog 48 #[.int .i64 c,.int .i64 d] w fun e w'=>e=.returned (.bool (decide (DepthR c d)))∧Below w.heap.size w w':=by
 by_cases h0:c=0
 ·subst h0
  have h:=isDepth_any d
  rw[show decide (Five d)=decide (DepthR 0 d) from decide_eq_decide.mpr ⟨fun h=>.inl ⟨rfl,h⟩,depth_five⟩] at h
  generalize decide (DepthR 0 d)=b at h ⊢
  go_enter Tryd.func48,Tryd.ntmps48
  go_wp2_with fail
  refine (h _).mono ?_
  rintro e w1 ⟨rfl,hB⟩
  have HB:=hid_of hB
  clear hB
  go_wp2_with fail
  go_ret
  exact⟨rfl,HB.out⟩
 by_cases h3:c=3
 ·subst h3
  by_cases h5:Five d
  ·have h:=isDepth_any d
   rw[decide_eq_true h5] at h
   have hh:decide (DepthR 3 d)=(d != 16):=by
    by_cases e:d=16
    ·subst e; decide
    ·rw[decide_eq_true (show DepthR 3 d from .inr (.inl ⟨rfl,h5,e⟩))]
     simp[e]
   rw[hh]
   clear h5 hh
   generalize hb:(d != 16)=b
   go_enter Tryd.func48,Tryd.ntmps48
   go_wp2_with fail
   refine (h _).mono ?_
   rintro e w1 ⟨rfl,hB⟩
   have HB:=hid_of hB
   clear hB
   go_wp2_with fail
   go_ret
   exact⟨rfl,HB.out⟩
  ·have h:=isDepth_any d
   rw[decide_eq_false h5] at h
   rw[decide_eq_false (fun h:DepthR 3 d=>h5 (depth_five h))]
   clear h5
   go_enter Tryd.func48,Tryd.ntmps48
   go_wp2_with fail
   refine (h _).mono ?_
   rintro e w1 ⟨rfl,hB⟩
   have HB:=hid_of hB
   clear hB
   go_wp2_with fail
   go_ret
   exact⟨rfl,HB.out⟩
 have hd:d=8∨d=16∨(¬ d=8∧¬ d=16):=by omega
 have hc:c=2∨c=4∨c=6∨(¬ c=2∧¬ c=4∧¬ c=6):=by omega
 rcases hc with rfl | rfl | rfl | ⟨h2,h4,h6⟩
 all_goals
  rcases hd with rfl | rfl | ⟨h8,h16⟩
 all_goals
  first
   | (rw [decide_eq_true (show DepthR _ _ by unfold DepthR Five; omega)])
   | (rw [decide_eq_false (show ¬ DepthR _ _ by unfold DepthR Five; omega)])
  try (have e0:=beq_no1 h0; have e3:=beq_no1 h3; have e2:=beq_no1 h2; have e4:=beq_no1 h4; have e6:=beq_no1 h6; clear h0 h3 h2 h4 h6)
  try (have g8:=beq_no1 h8; have g16:=beq_no1 h16; clear h8 h16)
  go_enter Tryd.func48,Tryd.ntmps48
  go_wp2_with fail
  go_ret
  exact⟨rfl,Below.refl _ _⟩
end
section
open Go.RowKit Go.Joins TakeMath
theorem info_u812:(Tryd.prog.info? 5).map (fun i=>(i.zero,i.size,i.bytes))=some (some (.int .u8 0),1,1):=by kernel_rfl
theorem make_bytes12 (w:World) (n:Nat) (hn:n≤16777216):(Instr.makeSlice 22 (.int .i64 n) (.int .i64 n)).run Tryd.prog w=.ok (.slice (some ⟨w.heap.size,0,none⟩) n n) (w.alloc (.cells (madeCells #[Value.int .u8 0] n) 5)):=by
 obtain⟨i0,hi0,hz0,hz1,hz2⟩:=info_parts info_u812
 have h:=run_make (P:=Tryd.prog) w 22 5 i0 (.int .u8 0) Tryd.underlying22 hi0 hz0 .i64 .i64 n n (by omega) (by omega) (by rw [hz2]; omega) (by omega)
 rw[hz1,Int.toNat_natCast,Nat.mul_one] at h
 exact h
def fb8 (h:Nat→Int) (n:Nat):List Value:=(List.range n).map fun i=>.int .u8 (h i)
theorem fb8_length (h:Nat→Int) (n:Nat):(fb8 h n).length=n:=by simp [fb8]
theorem fb8_get (f:Nat→Int) (n j:Nat) (h:j < (fb8 f n).length):(fb8 f n)[j]=.int .u8 (f j):=by simp [fb8]
theorem fb8_set (f:Nat→Int) (n j:Nat) (x:Int):(fb8 f n).set j (.int .u8 x)=fb8 (upd f j x) n:=by
 refine List.ext_getElem (by simp [fb8]) fun i h1 h2=>?_
 rw[List.getElem_set,fb8_get (upd f j x)]
 by_cases hij:j=i
 ·subst hij
  rw[if_pos rfl]
  simp[upd]
 ·have hji:¬ i=j:=fun h=>hij h.symm
  rw[if_neg hij,fb8_get]
  simp[upd,hji]
def BFn (w:World) (base g n cap:Nat) (f:Nat→Int):Prop:=Own 5 w base g (.slice (some ⟨g,0,none⟩) n cap) (fb8 f n)
section
variable {w w':World} {base g n cap:Nat} {f:Nat→Int}
theorem BFn.cell (h:BFn w base g n cap f) (j:Nat) (hj:j < n):w.cell? ⟨g,j,none⟩=some (.int .u8 (f j)):=by
 have h':j < (fb8 f n).length:=by rw [fb8_length]; exact hj
 rw[Own.cell h j h',fb8_get]
theorem BFn.free (h:BFn w base g n cap f) (j:Nat) (hj:j < n):w.frozen? ⟨g,j,none⟩=false:=Own.free h j (by rw [fb8_length]; exact hj)
theorem BFn.set (h:BFn w base g n cap f) (j:Nat) (hj:j < n) (x:Int):BFn (w.setCell ⟨g,j,none⟩ (.int .u8 x)) base g n cap (upd f j x):=by
 have k:=Own.set h j (by rw [fb8_length]; exact hj) (.int .u8 x)
 rw[fb8_set] at k
 exact k
theorem BFn.made (w:World) (n:Nat) (hn:n≤maxLen) (hb:base≤w.heap.size):BFn (w.alloc (.cells (madeCells #[Value.int .u8 0] n) 5)) base w.heap.size n n (fun _=>0):=by
 refine⟨n,madeCells #[Value.int .u8 0] n,(0,0),by rw [fb8_length],hb,heap_alloc_new w _,.inl rfl,by rw [fb8_length]; exact Nat.le_refl _,hn,by simp [madeCells],?_⟩
 have e:(madeCells #[Value.int .u8 0] n).toList=fb8 (fun _=>0) n:=by
  unfold madeCells fb8
  rw[Array.toList_map,Array.toList_range]
  refine List.map_congr_left fun i _=>?_
  simp[Nat.mod_one]
 rw[e,fb8_length,List.take_of_length_le (by rw [fb8_length]; exact Nat.le_refl _)]
theorem BFn.drew (h:BFn w base g n cap f):BFn w.drew base g n cap f:=Own.drewN h 1
theorem BFn.text (h:BFn w base g n cap f) (zs:List Int) (hl:zs.length=n) (hz:∀ i,i < n→zs.getD i 0=f i):(convert 22 9 (.slice (some ⟨g,0,none⟩) n cap)).run Tryd.prog w=.ok (.string (strOfNums zs)) w:=by
 refine run_convert_bytes_arg w 22 5 Tryd.underlying22 Tryd.underlying5 g 0 _ cap zs hl (fun i hi=>?_) 9 Tryd.underlying9
 rw[Nat.zero_add,h.cell i hi,hz i hi]
end
end
section
open Go.RowKit Go.Joins TakeMath TokMath FiltMath
structure But (g:Nat) (w w':World):Prop where
 os:w'.os=w.os
 tape:w'.tape=w.tape
 output:w'.output=w.output
 size:w.heap.size≤w'.heap.size
 block:∀ k,k < w.heap.size→k≠g→w'.heap[k]?=w.heap[k]?
section
variable {g k:Nat} {w w' a b c:World}
theorem But.refl (g:Nat) (w:World):But g w w:=⟨rfl,rfl,rfl,Nat.le_refl _,fun _ _ _=>rfl⟩
theorem But.trans (h:But g a b) (k:But g b c):But g a c:=
 ⟨k.os.trans h.os,k.tape.trans h.tape,k.output.trans h.output,Nat.le_trans h.size k.size,fun i hi hg=>(k.block i (Nat.lt_of_lt_of_le hi h.size) hg).trans (h.block i hi hg)⟩
theorem But.of_below (h:Below w.heap.size w w'):But g w w':=⟨h.os,h.tape,h.output,h.size,fun i hi _=>h.block i hi⟩
theorem But.next (h:But g a b) (k:Below b.heap.size b c):But g a c:=h.trans (But.of_below k)
theorem But.set (h:But g a b) (i:Nat) (v:Value):But g a (b.setCell ⟨g,i,none⟩ v):=
 h.trans ⟨rfl,rfl,rfl,by simp [World.setCell],fun _ _ hg=>Below.heap_setCell _ _ _ _ hg⟩
theorem But.drew (h:But g a b):But g a b.drew:=⟨h.os,h.tape,h.output,h.size,h.block⟩
theorem But.below {B:Nat} {w0:World} (h:But g a b) (hb:Below B w0 a) (hg:B≤g) (hB:B≤a.heap.size):Below B w0 b:=
 ⟨h.os.trans hb.os,h.tape.trans hb.tape,h.output.trans hb.output,Nat.le_trans hb.size h.size,fun i hi=>(h.block i (by omega) (by omega)).trans (hb.block i hi)⟩
theorem But.cell (h:But g a b) (hk:k < a.heap.size) (hne:k≠g) (i:Nat):b.cell? ⟨k,i,none⟩=a.cell? ⟨k,i,none⟩:=World.cell?_of_block (w:=a) (h.block k hk hne)
theorem But.frozen (h:But g a b) (hk:k < a.heap.size) (hne:k≠g) (i:Nat):b.frozen? ⟨k,i,none⟩=a.frozen? ⟨k,i,none⟩:=World.frozen?_of_block (w:=a) (h.block k hk hne)
theorem But.own {e:TypeId} {base:Nat} {v:Value} {xs:List Value} (h:But g a b) (ho:Own e a base k v xs) (hne:k≠g):Own e b base k v xs:=ho.keep (h.block k ho.lt hne)
theorem But.came {x:Option Addr} {n:Nat} {f:Nat→Int} (h:But g a b) (hc:Came a x n f) (hne:∀ q o,x=some ⟨q,o,none⟩→n=0∨q≠g):Came b x n f:=by
 rcases hc with hc | ⟨q,off,ha,hq,hcc⟩
 ·exact .inl hc
 rcases hne q off ha with h0 | h0
 ·exact .inl h0
 ·exact .inr ⟨q,off,ha,Nat.lt_of_lt_of_le hq h.size,fun j hj=>(h.cell hq h0 _).trans (hcc j hj)⟩
end
def BAt (w:World) (g n:Nat) (f:Nat→Int):Prop:=g < w.heap.size∧∀ i,i < n→w.cell? ⟨g,i,none⟩=some (.int .u8 (f i))
section
variable {g k n cap base:Nat} {w w':World} {f:Nat→Int}
theorem BAt.called (h:BAt w k n f) (hb:Below w.heap.size w w'):BAt w' k n f:=⟨Nat.lt_of_lt_of_le h.1 hb.size,fun i hi=>((bcell hb).1 k i h.1).trans (h.2 i hi)⟩
theorem BAt.but (h:BAt w k n f) (hb:But g w w') (hne:k≠g):BAt w' k n f:=⟨Nat.lt_of_lt_of_le h.1 hb.size,fun i hi=>(hb.cell h.1 hne i).trans (h.2 i hi)⟩
theorem BAt.drew (h:BAt w k n f):BAt w.drew k n f:=h
theorem BAt.congr {f':Nat→Int} (h:BAt w k n f) (e:∀ i,i < n→f i=f' i):BAt w k n f':=⟨h.1,fun i hi=>by rw [← e i hi]; exact h.2 i hi⟩
theorem BFn.at (h:BFn w base g n cap f):BAt w g n f:=⟨Own.lt h,h.cell⟩
theorem BFn.keep (h:BFn w base g n cap f) (hk:w'.heap[g]?=w.heap[g]?):BFn w' base g n cap f:=Own.keep h hk
theorem BFn.called (h:BFn w base g n cap f) (hb:Below w.heap.size w w'):BFn w' base g n cap f:=Own.keep h (hb.block g (Own.lt h))
theorem BFn.but (h:BFn w base k n cap f) (hb:But g w w') (hne:k≠g):BFn w' base k n cap f:=hb.own h hne
theorem BFn.congr {f':Nat→Int} (h:BFn w base g n cap f) (e:∀ i,i < n→f i=f' i):BFn w base g n cap f':=by
 have:fb8 f n=fb8 f' n:=by
  unfold fb8
  refine List.map_congr_left fun i hi=>?_
  rw[e i (List.mem_range.mp hi)]
 unfold BFn at h ⊢
 rw[← this]
 exact h
theorem BFn.mono {b:Nat} (h:BFn w base g n cap f) (hb:b≤base):BFn w b g n cap f:=Own.mono h hb
theorem bts_of13 (s:ByteArray) (i:Nat) (h:i < s.size):(bytesOf s).getD i 0=bts s i:=by
 unfold bts
 rw[← byteAt_get s i h]
 have h':i < s.data.size:=h
 simp[bytesOf,List.getD_eq_getElem?_getD,Array.getElem?_eq_getElem h']
 rfl
def laidAt (f:Nat→Int) (o:Nat) (vs:List Int):Nat→Int:=fun i=>if o≤i∧i < o+vs.length then vs.getD (i - o) 0 else f i
theorem laidAt_in (f:Nat→Int) (o:Nat) (vs:List Int) (i:Nat) (h:i < vs.length):laidAt f o vs (o+i)=vs.getD i 0:=by
 unfold laidAt
 rw[if_pos ⟨by omega,by omega⟩,Nat.add_sub_cancel_left]
theorem laidAt_out (f:Nat→Int) (o:Nat) (vs:List Int) (i:Nat) (h:i < o∨o+vs.length≤i):laidAt f o vs i=f i:=by
 unfold laidAt
 rw[if_neg (by omega)]
theorem BFn.cells:∀ (vs:List Int) (o:Nat) (w:World) (f:Nat→Int),BFn w base g n cap f→o+vs.length≤n→BFn (w.setCells g o (vs.map (Value.int .u8))) base g n cap (laidAt f o vs)∧But g w (w.setCells g o (vs.map (Value.int .u8)))
 | [],o,w,f,h,_=>by
  refine⟨?_,But.refl _ _⟩
  show BFn w base g n cap _
  exact h.congr fun i _=>(laidAt_out f o [] i (by simp; omega)).symm
 | v :: r,o,w,f,h,hl=>by
  rw[List.length_cons] at hl
  obtain⟨h1,h2⟩:=BFn.cells r (o+1) (w.setCell ⟨g,o,none⟩ (.int .u8 v)) (upd f o v) (h.set o (by omega) v) (by omega)
  refine⟨?_,((But.refl g w).set o _).trans h2⟩
  show BFn ((w.setCell ⟨g,o,none⟩ (.int .u8 v)).setCells g (o+1) (r.map (Value.int .u8))) base g n cap _
  refine h1.congr fun i _=>?_
  unfold laidAt upd
  rw[List.length_cons]
  by_cases e:i=o
  ·subst e
   rw[if_neg (by omega),if_pos rfl,if_pos (by omega),Nat.sub_self]
   rfl
  ·by_cases e2:o+1≤i∧i < o+1+r.length
   ·rw[if_pos e2,if_pos (by omega),show i - o=(i - (o+1))+1 by omega]
    simp
   ·rw[if_neg e2,if_neg e,if_neg (by omega)]
end
end
end Go.Proofs.YtcbbcadfolgioaaDoor
