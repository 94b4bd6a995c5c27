/-
  Texts of the proof, put together.
-/
import Derived.Test.YtcbbcadfolgioaaDoorPc03
import Derived.Test.YtcbbcadfolgioaaDoorPc05
import Derived.Deep.AppendLies
namespace Go.Proofs.YtcbbcadfolgioaaDoor
section
open Go.RowKit Go.Joins PassMath
def passR (W H:Nat) (x2 x3:Int) (N:Nat) (f:Nat→Int) (p:Nat):Ras:=⟨(pw W H p:Int),(ph W H p:Int),x2,x3,pw W H p * ph W H p * N,passF W H N f p⟩
def rcells (R:Nat→Ras) (A:Nat→Option Addr) (C:Nat→Nat):Nat→List Value
 | 0=>[]
 | m+1=>rcells R A C m ++ [.int .i64 (R m).x0,.int .i64 (R m).x1,.int .i64 (R m).x2,.int .i64 (R m).x3,.slice (A m) (R m).n (C m)]
theorem rcells_succ (R:Nat→Ras) (A:Nat→Option Addr) (C:Nat→Nat) (m:Nat):rcells R A C (m+1)=rcells R A C m ++ [.int .i64 (R m).x0,.int .i64 (R m).x1,.int .i64 (R m).x2,.int .i64 (R m).x3,.slice (A m) (R m).n (C m)]:=rfl
theorem rcells_length (R:Nat→Ras) (A:Nat→Option Addr) (C:Nat→Nat):∀ m,(rcells R A C m).length=m * 5
 | 0=>rfl
 | m+1=>by simp [rcells,rcells_length R A C m]; omega
theorem rcells_congr (R:Nat→Ras) {A A':Nat→Option Addr} {C C':Nat→Nat}:∀ m,(∀ j,j < m→A j=A' j∧C j=C' j)→rcells R A C m=rcells R A' C' m
 | 0,_=>rfl
 | m+1,h=>by
  unfold rcells
  rw[rcells_congr R m (fun j hj=>h j (by omega)),(h m (by omega)).1,(h m (by omega)).2]
theorem rcells_get (R:Nat→Ras) (A:Nat→Option Addr) (C:Nat→Nat):∀ m j,j < m→(rcells R A C m)[j * 5]?=some (.int .i64 (R j).x0)∧(rcells R A C m)[j * 5+1]?=some (.int .i64 (R j).x1)∧(rcells R A C m)[j * 5+2]?=some (.int .i64 (R j).x2)∧(rcells R A C m)[j * 5+3]?=some (.int .i64 (R j).x3)∧(rcells R A C m)[j * 5+4]?=some (.slice (A j) (R j).n (C j))
 | 0,j,h=>absurd h (Nat.not_lt_zero j)
 | m+1,j,h=>by
  unfold rcells
  by_cases e:j=m
  ·subst e
   have hl:=rcells_length R A C j
   refine⟨?_,?_,?_,?_,?_⟩
   ·rw[List.getElem?_append_right (by omega),hl,Nat.sub_self]; rfl
   ·rw[List.getElem?_append_right (by omega),hl,Nat.add_sub_cancel_left]; rfl
   ·rw[List.getElem?_append_right (by omega),hl,Nat.add_sub_cancel_left]; rfl
   ·rw[List.getElem?_append_right (by omega),hl,Nat.add_sub_cancel_left]; rfl
   ·rw[List.getElem?_append_right (by omega),hl,Nat.add_sub_cancel_left]; rfl
  ·have ih:=rcells_get R A C m j (by omega)
   have hl:=rcells_length R A C m
   refine⟨?_,?_,?_,?_,?_⟩
   ·rw[List.getElem?_append_left (by omega)]; exact ih.1
   ·rw[List.getElem?_append_left (by omega)]; exact ih.2.1
   ·rw[List.getElem?_append_left (by omega)]; exact ih.2.2.1
   ·rw[List.getElem?_append_left (by omega)]; exact ih.2.2.2.1
   ·rw[List.getElem?_append_left (by omega)]; exact ih.2.2.2.2
def PassI (w w':World) (W H N:Nat) (x2 x3:Int) (f:Nat→Int) (v:Value) (gl cl p:Nat):Prop:=
 w'.heap[w.heap.size]?=some (.cells #[.int .i64 (W:Int),.int .i64 (H:Int),.int .i64 x2,.int .i64 x3,v] 26 (0,0))∧
 (∃ (A:Nat→Option Addr) (G C:Nat→Nat),w'.ownsRow (w.heap.size+1) 26 5 (.slice (some ⟨gl,0,none⟩) p cl) p (rcells (passR W H x2 x3 N f) A C p)∧(∀ j,j < p→RowOwn w' (w.heap.size+1) (A j) (G j) (passR W H x2 x3 N f j).n (C j) (passR W H x2 x3 N f j).f)∧∀ j,j < p→0 < (passR W H x2 x3 N f j).n→G j≠gl)∧
 Below w.heap.size w w'
theorem passI_start (w:World) (W H N:Nat) (x2 x3:Int) (f:Nat→Int) (v:Value):PassI w ((w.alloc (.cells #[.int .i64 (W:Int),.int .i64 (H:Int),.int .i64 x2,.int .i64 x3,v] 26)).alloc (.cells #[] 26)) W H N x2 x3 f v (w.heap.size+1) 0 0:=by
 refine⟨?_,⟨fun _=>none,fun _=>0,fun _=>0,⟨rfl,.inr ⟨w.heap.size+1,0,#[],rfl,Nat.le_refl _,?_,Nat.le_refl _,Nat.zero_le _,rfl,rfl⟩⟩,fun j hj=>absurd hj (Nat.not_lt_zero j),fun j hj=>absurd hj (Nat.not_lt_zero j)⟩,bal (bstart _ _) _⟩
 ·exact (Below.heap_alloc (w.alloc _) _ _ (by simp)).trans (heap_alloc_new w _)
 ·have:=heap_alloc_new (w.alloc (.cells #[.int .i64 (W:Int),.int .i64 (H:Int),.int .i64 x2,.int .i64 x3,v] 26)) (.cells #[] 26)
  simpa using this
theorem PassI.box {w w':World} {W H N:Nat} {x2 x3:Int} {f:Nat→Int} {v:Value} {gl cl p:Nat} (h:PassI w w' W H N x2 x3 f v gl cl p):
  w'.cell? ⟨w.heap.size,0,none⟩=some (.int .i64 (W:Int))∧w'.cell? ⟨w.heap.size,1,none⟩=some (.int .i64 (H:Int))∧w'.cell? ⟨w.heap.size,2,none⟩=some (.int .i64 x2)∧w'.cell? ⟨w.heap.size,3,none⟩=some (.int .i64 x3)∧w'.cell? ⟨w.heap.size,4,none⟩=some v∧w.heap.size < w'.heap.size:=
 ⟨(cell_of_block h.1 0).trans rfl,(cell_of_block h.1 1).trans rfl,(cell_of_block h.1 2).trans rfl,(cell_of_block h.1 3).trans rfl,(cell_of_block h.1 4).trans rfl,block_lt h.1⟩
def RowI (w1 w':World) (x0 x1 x2 x3:Int) (F:Nat→Int) (k:Nat):Prop:=∃ v,w'.heap[w1.heap.size]?=some (.cells #[.int .i64 x0,.int .i64 x1,.int .i64 x2,.int .i64 x3,v] 26 (0,0))∧w'.ownsRow (w1.heap.size+1) 3 1 v k (fints F k)∧Below w1.heap.size w1 w'
theorem rowI_start (w1:World) (x0 x1 x2 x3:Int) (F:Nat→Int):RowI w1 (w1.alloc (.cells #[.int .i64 x0,.int .i64 x1,.int .i64 x2,.int .i64 x3,.slice none 0 0] 26)) x0 x1 x2 x3 F 0:=⟨_,heap_alloc_new w1 _,⟨rfl,.inl ⟨rfl,rfl⟩⟩,bstart _ _⟩
theorem fints_more (F:Nat→Int) (k n:Nat):fints F (k+n)=fints F k ++ (List.range n).map fun c=>.int .i64 (F (k+c)):=by
 unfold fints
 rw[List.range_add,List.map_append,List.map_map]
 rfl
theorem rowI_next {w1 wr w3:World} {x0 x1 x2 x3:Int} {F:Nat→Int} {k n g cap:Nat} {v:Value} (h1:wr.heap[w1.heap.size]?=some (.cells #[.int .i64 x0,.int .i64 x1,.int .i64 x2,.int .i64 x3,v] 26 (0,0))) (hB:Below w1.heap.size w1 wr) (hv:∀ q,v.ownBlock=some q→w1.heap.size+1≤q) (hO:w3.ownsRow (w1.heap.size+1) 3 1 (.slice (some ⟨g,0,none⟩) (k+n) cap) (k+n) (fints F k ++ (List.range n).map fun c=>.int .i64 (F (k+c)))) (hg:wr.grownBy w3 v.ownBlock):
  RowI w1 (w3.setCell ⟨w1.heap.size,4,none⟩ (.slice (some ⟨g,0,none⟩) (k+n) cap)) x0 x1 x2 x3 F (k+n):=by
 have hl:=block_lt h1
 have h3:w3.heap[w1.heap.size]?=some (.cells #[.int .i64 x0,.int .i64 x1,.int .i64 x2,.int .i64 x3,v] 26 (0,0)):=(hg.block _ hl (fun e=>by have:=hv _ e.symm; omega)).trans h1
 refine⟨.slice (some ⟨g,0,none⟩) (k+n) cap,?_,?_,?_⟩
 ·simp[World.setCell,Array.getElem?_modify,h3]
 ·rw[fints_more]
  obtain⟨q1,q2⟩:=hO
  refine⟨q1,?_⟩
  rcases q2 with ⟨e,_⟩ | ⟨g',c',cur,e,r1,r2,r3⟩
  ·cases e
  ·refine .inr ⟨g',c',cur,e,r1,?_,r3⟩
   rw[heap_setCell_other _ _ _ _ (by show ¬ g'=w1.heap.size; omega)]
   exact r2
 ·refine Below.setCell ?_ (by exact Nat.le_refl _) _
  exact⟨hg.os.trans hB.os,hg.tape.trans hB.tape,hg.output.trans hB.output,Nat.le_trans hB.size hg.size,fun b hb=>(hg.block b (Nat.lt_of_lt_of_le hb hB.size) (fun e=>by have:=hv _ e.symm; omega)).trans (hB.block b hb)⟩
theorem own_block_le {w:World} {S n:Nat} {e:TypeId} {m:Nat} {v:Value} {xs:List Value} (h:w.ownsRow S e m v n xs):∀ q,v.ownBlock=some q→S≤q:=by
 intro q hq
 rcases h.2 with ⟨rfl,_⟩ | ⟨g,c,cur,rfl,h1,_⟩
 ·cases hq
 ·cases hq
  exact h1
theorem row_of_owns {w:World} {S k:Nat} {v:Value} {F:Nat→Int} (h:w.ownsRow S 3 1 v k (fints F k)):∃ a G c,v=.slice a k c∧RowOwn w S a G k c F∧(0 < k→S≤G):=by
 rcases h.2 with ⟨rfl,rfl⟩ | ⟨g,c,cur,rfl,h1,h2,h3,h4,h5,h6⟩
 ·exact⟨none,0,0,rfl,⟨Nat.le_refl _,Nat.zero_le _,.inl rfl⟩,fun h=>absurd h (Nat.lt_irrefl 0)⟩
 ·refine⟨some ⟨g,0,none⟩,g,c,rfl,⟨h3,h4,.inr ⟨rfl,?_⟩⟩,fun _=>h1⟩
  rw[Nat.mul_one] at h6
  exact⟨c,cur,(0,0),by rw [fints_length],h1,h2,.inl rfl,by rw [fints_length]; exact h3,h4,by rw [h5,Nat.mul_one],by rw [fints_length]; exact h6⟩
theorem passI_next {w w1 w5 w6:World} {W H N:Nat} {x2 x3:Int} {f:Nat→Int} {v vr:Value} {gl cl p g' cap':Nat} {A:Nat→Option Addr} {G C:Nat→Nat} {o:Obj}
  (bx:w1.heap[w.heap.size]?=some (.cells #[.int .i64 (W:Int),.int .i64 (H:Int),.int .i64 x2,.int .i64 x3,v] 26 (0,0)))
  (hL:w1.ownsRow (w.heap.size+1) 26 5 (.slice (some ⟨gl,0,none⟩) p cl) p (rcells (passR W H x2 x3 N f) A C p)) (hR:∀ j,j < p→RowOwn w1 (w.heap.size+1) (A j) (G j) (passR W H x2 x3 N f j).n (C j) (passR W H x2 x3 N f j).f) (hne:∀ j,j < p→0 < (passR W H x2 x3 N f j).n→G j≠gl) (hB1:Below w.heap.size w w1)
  (hO:w5.ownsRow (w1.heap.size+1) 3 1 vr (pw W H p * ph W H p * N) (fints (passF W H N f p) (pw W H p * ph W H p * N))) (hB:Below w1.heap.size w1 w5)
  (hA:w6.ownsRow (w.heap.size+1) 26 5 (.slice (some ⟨g',0,none⟩) (p+1) cap') (p+1) (rcells (passR W H x2 x3 N f) A C p ++ [.int .i64 (pw W H p:Int),.int .i64 (ph W H p:Int),.int .i64 x2,.int .i64 x3,vr])) (hg:(w5.alloc o).grownBy w6 (some gl)) (hgg:some gl=some g'∨g'=(w5.alloc o).heap.size):PassI w w6 W H N x2 x3 f v g' cap' (p+1):=by
 have hgl:w.heap.size+1≤gl:=own_block_le hL gl rfl
 have hglt:gl < w1.heap.size:=by
  rcases hL.2 with ⟨e,_⟩ | ⟨g,c,cur,e,_,q,_⟩
  ·cases e
  ·cases e
   exact block_lt q
 have hsz:(w5.alloc o).heap.size=w5.heap.size+1:=by simp
 have hblk:∀ b,b < w1.heap.size→b≠gl→w6.heap[b]?=w1.heap[b]?:=fun b hb hbn=>by
  have h5:b < w5.heap.size:=Nat.lt_of_lt_of_le hb hB.size
  rw[hg.block b (by rw [hsz]; omega) (fun e=>hbn (Option.some.inj e)),Below.heap_alloc w5 o b h5]
  exact hB.block b hb
 have hblk5:∀ b,b < w5.heap.size→b≠gl→w6.heap[b]?=w5.heap[b]?:=fun b hb hbn=>by
  rw[hg.block b (by rw [hsz]; omega) (fun e=>hbn (Option.some.inj e)),Below.heap_alloc w5 o b hb]
 have hs1:=hB1.size
 obtain⟨ar,Gr,cr,rfl,hrow,hGr⟩:=row_of_owns hO
 have ecell:rcells (passR W H x2 x3 N f) (fun i=>if i=p then ar else A i) (fun i=>if i=p then cr else C i) (p+1)=rcells (passR W H x2 x3 N f) A C p ++ [.int .i64 (pw W H p:Int),.int .i64 (ph W H p:Int),.int .i64 x2,.int .i64 x3,.slice ar (pw W H p * ph W H p * N) cr]:=by
  rw[rcells_succ,rcells_congr (A':=A) (C':=C) _ p (fun j hj=>by simp [show ¬ j=p by omega])]
  simp only [if_pos]
  rfl
 refine⟨(hblk _ (by have:=block_lt bx; omega) (by omega)).trans bx,⟨_,fun i=>if i=p then Gr else G i,_,by rw [ecell]; exact hA,fun j hj=>?_,fun j hj hn=>?_⟩,?_⟩
 ·by_cases e:j=p
  ·subst e
   simp only [if_pos]
   refine (show RowOwn w5 (w.heap.size+1) ar Gr (passR W H x2 x3 N f j).n cr (passR W H x2 x3 N f j).f from ⟨hrow.1,hrow.2.1,?_⟩).keep (fun hn=>hblk5 _ (hrow.lt hn).1 (by have:=hGr hn; omega))
   rcases hrow.2.2 with q | ⟨q1,q2⟩
   ·exact .inl q
   ·exact .inr ⟨q1,q2.mono (by omega)⟩
  ·simp only [if_neg e]
   exact (hR j (by omega)).keep (fun hn=>hblk _ ((hR j (by omega)).lt hn).1 (hne j (by omega) hn))
 ·by_cases e:j=p
  ·subst e
   simp only [if_pos]
   have h1:=hGr hn
   have h2:=(hrow.lt hn).1
   rcases hgg with q | q
   ·have:=Option.some.inj q
    omega
   ·omega
  ·simp only [if_neg e]
   have h1:=hne j (by omega) hn
   have h2:=((hR j (by omega)).lt hn).1
   have h3:=hB.size
   rcases hgg with q | q
   ·rw[← Option.some.inj q]
    exact h1
   ·omega
 ·refine⟨?_,?_,?_,?_,fun b hb=>?_⟩
  ·exact hg.os.trans (hB.os.trans hB1.os)
  ·exact hg.tape.trans (hB.tape.trans hB1.tape)
  ·exact hg.output.trans (hB.output.trans hB1.output)
  ·have:=hg.size
   have:=hB.size
   omega
  ·rw[hblk b (by omega) (by omega)]
   exact hB1.block b hb
theorem PassI.out {w w':World} {W H N:Nat} {x2 x3:Int} {f:Nat→Int} {v:Value} {gl cl p:Nat} (h:PassI w w' W H N x2 x3 f v gl cl p):RCame w' (some ⟨gl,0,none⟩) p (passR W H x2 x3 N f):=by
 obtain⟨_,⟨A,G,C,hL,hR,_⟩,_⟩:=h
 rcases hL.2 with ⟨e,_⟩ | ⟨g,c,cur,e,h1,h2,h3,h4,h5,h6⟩
 ·cases e
 ·cases e
  refine .inr ⟨gl,0,A,C,rfl,block_lt h2,fun j hj=>⟨?_,(hR j hj).came,(hR j hj).1,(hR j hj).2.1⟩⟩
  have hc:∀ k,k < p * 5→w'.cell? ⟨gl,k,none⟩=(rcells (passR W H x2 x3 N f) A C p)[k]?:=fun k hk=>by
   rw[cell_of_block h2 k,← h6,List.getElem?_take,if_pos hk]
   simp
  have q:=rcells_get (passR W H x2 x3 N f) A C p j hj
  unfold RasAt
  rw[Nat.zero_add,hc _ (by omega),hc _ (by omega),hc _ (by omega),hc _ (by omega),hc _ (by omega)]
  exact q
end
section
open Go.RowKit RastMath PassMath
def passesR (r:Ras):Nat→Ras:=passR r.x0.toNat r.x1.toNat r.x2 r.x3 (chan r.x2).toNat r.f
def RasOk (r:Ras):Prop:=RasR r.x0 r.x1 r.x2 r.x3 r.n r.f
theorem ras_parts {r:Ras} (h:RasOk r):∃ W H N:Nat,r.x0=(W:Int)∧r.x1=(H:Int)∧chan r.x2=(N:Int)∧(1≤W∧W≤24)∧(1≤H∧H≤24)∧(1≤N∧N≤4)∧r.n=W * H * N∧passesR r=passR W H r.x2 r.x3 N r.f:=by
 obtain⟨h0,h1,h2,h3,_⟩:=h
 have hc1:=chan_pos h2
 have hc2:=chan_range r.x2
 unfold SideR at h0 h1
 refine⟨r.x0.toNat,r.x1.toNat,(chan r.x2).toNat,by omega,by omega,by omega,by omega,by omega,by omega,?_,rfl⟩
 have e0:((r.x0.toNat:Nat):Int)=r.x0:=by omega
 have e1:((r.x1.toNat:Nat):Int)=r.x1:=by omega
 have e2:(((chan r.x2).toNat:Nat):Int)=chan r.x2:=by omega
 have:(r.n:Int)=((r.x0.toNat * r.x1.toNat * (chan r.x2).toNat:Nat):Int):=by
  rw[h3,Int.natCast_mul,Int.natCast_mul,e0,e1,e2]
 exact Int.ofNat.inj this
theorem passes_small {r:Ras} (h:RasOk r) (p:Nat):(passesR r p).n≤2304:=by
 obtain⟨W,H,N,_,_,_,hW,hH,hN,_,e⟩:=ras_parts h
 rw[e]
 show pw W H p * ph W H p * N≤2304
 have h1:=Nat.mul_le_mul (Nat.le_trans (pw_le W H p) hW.2) (Nat.le_trans (ph_le W H p) hH.2)
 exact Nat.le_trans (Nat.mul_le_mul h1 hN.2) (by omega)
theorem RasOk.same {r s:Ras} (h:RasOk r) (e:r.same s):RasOk s:=by
 obtain⟨e0,e1,e2,e3,e4,e5⟩:=e
 unfold RasOk RasR at h ⊢
 rw[← e0,← e1,← e2,← e3,← e4]
 refine⟨h.1,h.2.1,h.2.2.1,h.2.2.2.1,fun i hi=>?_⟩
 rw[← e5 i hi]
 exact h.2.2.2.2 i hi
end
section
open Go.RowKit Go.Joins
theorem info_made:(Tryd.prog.info? 3).map (fun i=>(i.zero,i.size,i.bytes))=some (some (.int .i64 0),1,8):=by kernel_rfl
end
section
open Go.RowKit Go.Joins RastMath PassMath
abbrev stepT (p:Int):Value:=.tuple #[.int .i64 (stepV px p),.int .i64 (stepV py p),.int .i64 (stepV pdx p),.int .i64 (stepV pdy p)]
set_option maxHeartbeats 1600000 in
theorem specPassStep (p:Int) (w:World):Calls Tryd.prog 60 #[.int .i64 p] w fun e w'=>e=.returned (stepT p)∧w'=w:=by
 by_cases h:PassR p
 ·obtain rfl | rfl | rfl | rfl | rfl | rfl | rfl:p=0∨p=1∨p=2∨p=3∨p=4∨p=5∨p=6:=by unfold PassR at h; omega
  all_goals
   clear h
   go_enter Tryd.func60,Tryd.ntmps60
   go_wp2_with fail
   refine bodyPost_ret (v:=stepT _) ?_ rfl ⟨rfl,rfl⟩
   simp[results,Tryd.results60,go_sem,stepT,stepV,PassR,px,py,pdx,pdy]
 ·have e:stepT p=.tuple #[.int .i64 0,.int .i64 0,.int .i64 0,.int .i64 0]:=by unfold stepT stepV; simp only [if_neg h]
  rw[e]
  clear e
  unfold PassR at h
  have b0:(p == 0)=false:=by simp; omega
  have b1:(p == 1)=false:=by simp; omega
  have b2:(p == 2)=false:=by simp; omega
  have b3:(p == 3)=false:=by simp; omega
  have b4:(p == 4)=false:=by simp; omega
  have b5:(p == 5)=false:=by simp; omega
  have b6:(p == 6)=false:=by simp; omega
  clear h
  go_enter Tryd.func60,Tryd.ntmps60
  go_wp2_with fail
  refine bodyPost_ret (v:=.tuple #[.int .i64 0,.int .i64 0,.int .i64 0,.int .i64 0]) ?_ rfl ⟨rfl,rfl⟩
  simp[results,Tryd.results60,go_sem]
theorem specCount (size frm step:Nat) (w:World) (hs:1≤step) (h1:size≤100) (h3:step≤100):Calls Tryd.prog 91 #[.int .i64 (size:Int),.int .i64 (frm:Int),.int .i64 (step:Int)] w fun e w'=>e=.returned (.int .i64 (cntP size frm step:Int))∧w'=w:=by
 have HC:Hid (∀ i,i < cntP size frm step↔frm+i * step < size):=fun i=>cntP_lt hs i
 have hc:cntP size frm step≤size:=cntP_le
 go_enter Tryd.func91,Tryd.ntmps91
 go_wp2_with fail
 go_loop [7,8] (fun n x=>∃ j y:Nat,j≤cntP size frm step∧Hid (y=frm+j * step)∧n=.int .i64 (j:Int)∧x=.int .i64 (y:Int)) (fun n _=>cntP size frm step - (intOf n).toNat)
 case atStart=>exact⟨0,frm,Nat.zero_le _,(by show frm=frm+0 * step; omega),rfl,rfl⟩
 case round=>
  obtain⟨j,y,hj,hy,rfl,rfl⟩:=hrel
  by_cases hlt:j < cntP size frm step
  ·have hys:y < size:=by rw [hy.out]; exact (HC.out j).mp hlt
   have d:decide ((y:Int) < (size:Int))=true:=decide_eq_true (by omega)
   go_wp2_with fail
   go_round
   case rel=>exact⟨j+1,y+step,by omega,(by show y+step=_; rw [hy.out,Nat.add_mul,Nat.one_mul]; omega),by go_num,by go_num⟩
   case measure=>simp [intOf]; omega
  ·obtain rfl:j=cntP size frm step:=by omega
   have hys:¬ y < size:=by rw [hy.out]; exact fun h=>absurd ((HC.out _).mpr h) (Nat.lt_irrefl _)
   have d:decide ((y:Int) < (size:Int))=false:=decide_eq_false (by omega)
   go_wp2_with fail
   go_ret
   exact⟨rfl,rfl⟩
theorem stepV_nat {p:Nat} (f:Nat→Nat) (h:p < 7):stepV f (p:Int)=(f p:Int):=by
 unfold stepV
 rw[if_pos (show PassR (p:Int) from ⟨by omega,by omega⟩)]
 rfl
set_option maxHeartbeats 1600000 in
theorem specPassSize_in (W H p:Nat) (w:World) (hW:1≤W∧W≤24) (hH:1≤H∧H≤24) (hp:p < 7):Calls Tryd.prog 59 #[.int .i64 (W:Int),.int .i64 (H:Int),.int .i64 (p:Int)] w fun e w'=>e=.returned (.tuple #[.int .i64 (pw W H p:Int),.int .i64 (ph W H p:Int)])∧w'=w:=by
 have s0:=fun V=>specSide (W:Int) V
 have s1:=fun V=>specSide (H:Int) V
 rw[decide_eq_true (show SideR (W:Int) from ⟨by omega,by omega⟩)] at s0
 rw[decide_eq_true (show SideR (H:Int) from ⟨by omega,by omega⟩)] at s1
 have s2:=fun V=>in_yes (p:Int) 0 6 V (by omega) (by omega)
 have s3:=fun V=>specPassStep (p:Int) V
 unfold stepT at s3
 rw[stepV_nat px hp,stepV_nat py hp,stepV_nat pdx hp,stepV_nat pdy hp] at s3
 have a1:=pdx_pos hp
 have a2:=pdy_pos hp
 have s4:=fun V=>specCount W (px p) (pdx p) V a1.1 (by omega) (by omega)
 have s5:=fun V=>specCount H (py p) (pdy p) V a2.1 (by omega) (by omega)
 have HW:Hid (pw W H p=if cntP W (px p) (pdx p)=0∨cntP H (py p) (pdy p)=0 then 0 else cntP W (px p) (pdx p)):=rfl
 have HH:Hid (ph W H p=if cntP W (px p) (pdx p)=0∨cntP H (py p) (pdy p)=0 then 0 else cntP H (py p) (pdy p)):=rfl
 have c1:cntP W (px p) (pdx p)≤W:=cntP_le
 have c2:cntP H (py p) (pdy p)≤H:=cntP_le
 generalize cntP W (px p) (pdx p)=A at *
 generalize cntP H (py p) (pdy p)=B at *
 generalize pw W H p=PW at *
 generalize ph W H p=PH at *
 by_cases hz:A=0∨B=0
 ·have e1:=HW.out
  have e2:=HH.out
  rw[if_pos hz] at e1 e2
  subst e1 e2
  rcases Nat.eq_zero_or_pos A with hA | hA
  ·subst hA
   clear hz HW HH
   go_enter Tryd.func59,Tryd.ntmps59
   go_wp2_with fail
   refine (s0 _).mono ?_
   rintro e w1 ⟨rfl,rfl⟩
   go_wp2_with fail
   refine (s1 _).mono ?_
   rintro e w1 ⟨rfl,rfl⟩
   go_wp2_with fail
   refine (s2 _).mono ?_
   rintro e w1 ⟨rfl,rfl⟩
   go_wp2_with fail
   refine (s3 _).mono ?_
   rintro e w1 ⟨rfl,rfl⟩
   go_wp2_with fail
   refine (s4 _).mono ?_
   rintro e w1 ⟨rfl,rfl⟩
   go_wp2_with fail
   refine (s5 _).mono ?_
   rintro e w1 ⟨rfl,rfl⟩
   go_wp2_with fail
   refine bodyPost_ret (v:=.tuple #[.int .i64 _,.int .i64 _]) ?_ rfl ⟨rfl,rfl⟩
   simp[results,Tryd.results59,go_sem]
  ·obtain rfl:B=0:=by omega
   have bz:((A:Int) == 0)=false:=by simp; omega
   clear hz HW HH
   go_enter Tryd.func59,Tryd.ntmps59
   go_wp2_with fail
   refine (s0 _).mono ?_
   rintro e w1 ⟨rfl,rfl⟩
   go_wp2_with fail
   refine (s1 _).mono ?_
   rintro e w1 ⟨rfl,rfl⟩
   go_wp2_with fail
   refine (s2 _).mono ?_
   rintro e w1 ⟨rfl,rfl⟩
   go_wp2_with fail
   refine (s3 _).mono ?_
   rintro e w1 ⟨rfl,rfl⟩
   go_wp2_with fail
   refine (s4 _).mono ?_
   rintro e w1 ⟨rfl,rfl⟩
   go_wp2_with fail
   refine (s5 _).mono ?_
   rintro e w1 ⟨rfl,rfl⟩
   go_wp2_with fail
   refine bodyPost_ret (v:=.tuple #[.int .i64 _,.int .i64 _]) ?_ rfl ⟨rfl,rfl⟩
   simp[results,Tryd.results59,go_sem]
 ·have e1:=HW.out
  have e2:=HH.out
  rw[if_neg hz] at e1 e2
  subst e1 e2
  have bz:((PW:Int) == 0)=false:=by simp; omega
  have bz2:((PH:Int) == 0)=false:=by simp; omega
  clear hz HW HH
  go_enter Tryd.func59,Tryd.ntmps59
  go_wp2_with fail
  refine (s0 _).mono ?_
  rintro e w1 ⟨rfl,rfl⟩
  go_wp2_with fail
  refine (s1 _).mono ?_
  rintro e w1 ⟨rfl,rfl⟩
  go_wp2_with fail
  refine (s2 _).mono ?_
  rintro e w1 ⟨rfl,rfl⟩
  go_wp2_with fail
  refine (s3 _).mono ?_
  rintro e w1 ⟨rfl,rfl⟩
  go_wp2_with fail
  refine (s4 _).mono ?_
  rintro e w1 ⟨rfl,rfl⟩
  go_wp2_with fail
  refine (s5 _).mono ?_
  rintro e w1 ⟨rfl,rfl⟩
  go_wp2_with fail
  refine bodyPost_ret (v:=.tuple #[.int .i64 _,.int .i64 _]) ?_ rfl ⟨rfl,rfl⟩
  simp[results,Tryd.results59,go_sem]
end
end Go.Proofs.YtcbbcadfolgioaaDoor
