/-
  Texts of the proof, put together.
-/
import Derived.Test.YtcbbcadfolgioaaDoorPe03
import Derived.Deep.AppendLies
namespace Go.Proofs.YtcbbcadfolgioaaDoor
section
open Go.RowKit Go.Joins PassMath
def passR (W H:Nat) (x2 x3:Int) (N:Nat) (f:Nat→Int) (p:Nat):Ras:=⟨(pw W H p:Int),(ph W H p:Int),x2,x3,pw W H p * ph W H p * N,passF W H N f p⟩
def rcells (R:Nat→Ras) (A:Nat→Option Addr) (C:Nat→Nat):Nat→List Value
 | 0=>[]
 | m+1=>rcells R A C m ++ [.int .i64 (R m).x0,.int .i64 (R m).x1,.int .i64 (R m).x2,.int .i64 (R m).x3,.slice (A m) (R m).n (C m)]
theorem rcells_succ (R:Nat→Ras) (A:Nat→Option Addr) (C:Nat→Nat) (m:Nat):rcells R A C (m+1)=rcells R A C m ++ [.int .i64 (R m).x0,.int .i64 (R m).x1,.int .i64 (R m).x2,.int .i64 (R m).x3,.slice (A m) (R m).n (C m)]:=rfl
theorem rcells_length (R:Nat→Ras) (A:Nat→Option Addr) (C:Nat→Nat):∀ m,(rcells R A C m).length=m * 5
 | 0=>rfl
 | m+1=>by simp [rcells,rcells_length R A C m]; omega
theorem rcells_congr (R:Nat→Ras) {A A':Nat→Option Addr} {C C':Nat→Nat}:∀ m,(∀ j,j < m→A j=A' j∧C j=C' j)→rcells R A C m=rcells R A' C' m
 | 0,_=>rfl
 | m+1,h=>by
  unfold rcells
  rw[rcells_congr R m (fun j hj=>h j (by omega)),(h m (by omega)).1,(h m (by omega)).2]
theorem rcells_get (R:Nat→Ras) (A:Nat→Option Addr) (C:Nat→Nat):∀ m j,j < m→(rcells R A C m)[j * 5]?=some (.int .i64 (R j).x0)∧(rcells R A C m)[j * 5+1]?=some (.int .i64 (R j).x1)∧(rcells R A C m)[j * 5+2]?=some (.int .i64 (R j).x2)∧(rcells R A C m)[j * 5+3]?=some (.int .i64 (R j).x3)∧(rcells R A C m)[j * 5+4]?=some (.slice (A j) (R j).n (C j))
 | 0,j,h=>absurd h (Nat.not_lt_zero j)
 | m+1,j,h=>by
  unfold rcells
  by_cases e:j=m
  ·subst e
   have hl:=rcells_length R A C j
   refine⟨?_,?_,?_,?_,?_⟩
   ·rw[List.getElem?_append_right (by omega),hl,Nat.sub_self]; rfl
   ·rw[List.getElem?_append_right (by omega),hl,Nat.add_sub_cancel_left]; rfl
   ·rw[List.getElem?_append_right (by omega),hl,Nat.add_sub_cancel_left]; rfl
   ·rw[List.getElem?_append_right (by omega),hl,Nat.add_sub_cancel_left]; rfl
   ·rw[List.getElem?_append_right (by omega),hl,Nat.add_sub_cancel_left]; rfl
  ·have ih:=rcells_get R A C m j (by omega)
   have hl:=rcells_length R A C m
   refine⟨?_,?_,?_,?_,?_⟩
   ·rw[List.getElem?_append_left (by omega)]; exact ih.1
   ·rw[List.getElem?_append_left (by omega)]; exact ih.2.1
   ·rw[List.getElem?_append_left (by omega)]; exact ih.2.2.1
   ·rw[List.getElem?_append_left (by omega)]; exact ih.2.2.2.1
   ·rw[List.getElem?_append_left (by omega)]; exact ih.2.2.2.2
def PassI (w w':World) (W H N:Nat) (x2 x3:Int) (f:Nat→Int) (v:Value) (gl cl p:Nat):Prop:=
 w'.heap[w.heap.size]?=some (.cells #[.int .i64 (W:Int),.int .i64 (H:Int),.int .i64 x2,.int .i64 x3,v] 26 (0,0))∧
 (∃ (A:Nat→Option Addr) (G C:Nat→Nat),w'.ownsRow (w.heap.size+1) 26 5 (.slice (some ⟨gl,0,none⟩) p cl) p (rcells (passR W H x2 x3 N f) A C p)∧(∀ j,j < p→RowOwn w' (w.heap.size+1) (A j) (G j) (passR W H x2 x3 N f j).n (C j) (passR W H x2 x3 N f j).f)∧∀ j,j < p→0 < (passR W H x2 x3 N f j).n→G j≠gl)∧
 Below w.heap.size w w'
theorem passI_start (w:World) (W H N:Nat) (x2 x3:Int) (f:Nat→Int) (v:Value):PassI w ((w.alloc (.cells #[.int .i64 (W:Int),.int .i64 (H:Int),.int .i64 x2,.int .i64 x3,v] 26)).alloc (.cells #[] 26)) W H N x2 x3 f v (w.heap.size+1) 0 0:=by
 refine⟨?_,⟨fun _=>none,fun _=>0,fun _=>0,⟨rfl,.inr ⟨w.heap.size+1,0,#[],rfl,Nat.le_refl _,?_,Nat.le_refl _,Nat.zero_le _,rfl,rfl⟩⟩,fun j hj=>absurd hj (Nat.not_lt_zero j),fun j hj=>absurd hj (Nat.not_lt_zero j)⟩,bal (bstart _ _) _⟩
 ·exact (Below.heap_alloc (w.alloc _) _ _ (by simp)).trans (heap_alloc_new w _)
 ·have:=heap_alloc_new (w.alloc (.cells #[.int .i64 (W:Int),.int .i64 (H:Int),.int .i64 x2,.int .i64 x3,v] 26)) (.cells #[] 26)
  simpa using this
theorem PassI.box {w w':World} {W H N:Nat} {x2 x3:Int} {f:Nat→Int} {v:Value} {gl cl p:Nat} (h:PassI w w' W H N x2 x3 f v gl cl p):
  w'.cell? ⟨w.heap.size,0,none⟩=some (.int .i64 (W:Int))∧w'.cell? ⟨w.heap.size,1,none⟩=some (.int .i64 (H:Int))∧w'.cell? ⟨w.heap.size,2,none⟩=some (.int .i64 x2)∧w'.cell? ⟨w.heap.size,3,none⟩=some (.int .i64 x3)∧w'.cell? ⟨w.heap.size,4,none⟩=some v∧w.heap.size < w'.heap.size:=
 ⟨(cell_of_block h.1 0).trans rfl,(cell_of_block h.1 1).trans rfl,(cell_of_block h.1 2).trans rfl,(cell_of_block h.1 3).trans rfl,(cell_of_block h.1 4).trans rfl,block_lt h.1⟩
def RowI (w1 w':World) (x0 x1 x2 x3:Int) (F:Nat→Int) (k:Nat):Prop:=∃ v,w'.heap[w1.heap.size]?=some (.cells #[.int .i64 x0,.int .i64 x1,.int .i64 x2,.int .i64 x3,v] 26 (0,0))∧w'.ownsRow (w1.heap.size+1) 3 1 v k (fints F k)∧Below w1.heap.size w1 w'
theorem rowI_start (w1:World) (x0 x1 x2 x3:Int) (F:Nat→Int):RowI w1 (w1.alloc (.cells #[.int .i64 x0,.int .i64 x1,.int .i64 x2,.int .i64 x3,.slice none 0 0] 26)) x0 x1 x2 x3 F 0:=⟨_,heap_alloc_new w1 _,⟨rfl,.inl ⟨rfl,rfl⟩⟩,bstart _ _⟩
theorem fints_more (F:Nat→Int) (k n:Nat):fints F (k+n)=fints F k ++ (List.range n).map fun c=>.int .i64 (F (k+c)):=by
 unfold fints
 rw[List.range_add,List.map_append,List.map_map]
 rfl
theorem rowI_next {w1 wr w3:World} {x0 x1 x2 x3:Int} {F:Nat→Int} {k n g cap:Nat} {v:Value} (h1:wr.heap[w1.heap.size]?=some (.cells #[.int .i64 x0,.int .i64 x1,.int .i64 x2,.int .i64 x3,v] 26 (0,0))) (hB:Below w1.heap.size w1 wr) (hv:∀ q,v.ownBlock=some q→w1.heap.size+1≤q) (hO:w3.ownsRow (w1.heap.size+1) 3 1 (.slice (some ⟨g,0,none⟩) (k+n) cap) (k+n) (fints F k ++ (List.range n).map fun c=>.int .i64 (F (k+c)))) (hg:wr.grownBy w3 v.ownBlock):
  RowI w1 (w3.setCell ⟨w1.heap.size,4,none⟩ (.slice (some ⟨g,0,none⟩) (k+n) cap)) x0 x1 x2 x3 F (k+n):=by
 have hl:=block_lt h1
 have h3:w3.heap[w1.heap.size]?=some (.cells #[.int .i64 x0,.int .i64 x1,.int .i64 x2,.int .i64 x3,v] 26 (0,0)):=(hg.block _ hl (fun e=>by have:=hv _ e.symm; omega)).trans h1
 refine⟨.slice (some ⟨g,0,none⟩) (k+n) cap,?_,?_,?_⟩
 ·simp[World.setCell,Array.getElem?_modify,h3]
 ·rw[fints_more]
  obtain⟨q1,q2⟩:=hO
  refine⟨q1,?_⟩
  rcases q2 with ⟨e,_⟩ | ⟨g',c',cur,e,r1,r2,r3⟩
  ·cases e
  ·refine .inr ⟨g',c',cur,e,r1,?_,r3⟩
   rw[heap_setCell_other _ _ _ _ (by show ¬ g'=w1.heap.size; omega)]
   exact r2
 ·refine Below.setCell ?_ (by exact Nat.le_refl _) _
  exact⟨hg.os.trans hB.os,hg.tape.trans hB.tape,hg.output.trans hB.output,Nat.le_trans hB.size hg.size,fun b hb=>(hg.block b (Nat.lt_of_lt_of_le hb hB.size) (fun e=>by have:=hv _ e.symm; omega)).trans (hB.block b hb)⟩
theorem own_block_le {w:World} {S n:Nat} {e:TypeId} {m:Nat} {v:Value} {xs:List Value} (h:w.ownsRow S e m v n xs):∀ q,v.ownBlock=some q→S≤q:=by
 intro q hq
 rcases h.2 with ⟨rfl,_⟩ | ⟨g,c,cur,rfl,h1,_⟩
 ·cases hq
 ·cases hq
  exact h1
theorem row_of_owns {w:World} {S k:Nat} {v:Value} {F:Nat→Int} (h:w.ownsRow S 3 1 v k (fints F k)):∃ a G c,v=.slice a k c∧RowOwn w S a G k c F∧(0 < k→S≤G):=by
 rcases h.2 with ⟨rfl,rfl⟩ | ⟨g,c,cur,rfl,h1,h2,h3,h4,h5,h6⟩
 ·exact⟨none,0,0,rfl,⟨Nat.le_refl _,Nat.zero_le _,.inl rfl⟩,fun h=>absurd h (Nat.lt_irrefl 0)⟩
 ·refine⟨some ⟨g,0,none⟩,g,c,rfl,⟨h3,h4,.inr ⟨rfl,?_⟩⟩,fun _=>h1⟩
  rw[Nat.mul_one] at h6
  exact⟨c,cur,(0,0),by rw [fints_length],h1,h2,.inl rfl,by rw [fints_length]; exact h3,h4,by rw [h5,Nat.mul_one],by rw [fints_length]; exact h6⟩
theorem passI_next {w w1 w5 w6:World} {W H N:Nat} {x2 x3:Int} {f:Nat→Int} {v vr:Value} {gl cl p g' cap':Nat} {A:Nat→Option Addr} {G C:Nat→Nat} {o:Obj}
  (bx:w1.heap[w.heap.size]?=some (.cells #[.int .i64 (W:Int),.int .i64 (H:Int),.int .i64 x2,.int .i64 x3,v] 26 (0,0)))
  (hL:w1.ownsRow (w.heap.size+1) 26 5 (.slice (some ⟨gl,0,none⟩) p cl) p (rcells (passR W H x2 x3 N f) A C p)) (hR:∀ j,j < p→RowOwn w1 (w.heap.size+1) (A j) (G j) (passR W H x2 x3 N f j).n (C j) (passR W H x2 x3 N f j).f) (hne:∀ j,j < p→0 < (passR W H x2 x3 N f j).n→G j≠gl) (hB1:Below w.heap.size w w1)
  (hO:w5.ownsRow (w1.heap.size+1) 3 1 vr (pw W H p * ph W H p * N) (fints (passF W H N f p) (pw W H p * ph W H p * N))) (hB:Below w1.heap.size w1 w5)
  (hA:w6.ownsRow (w.heap.size+1) 26 5 (.slice (some ⟨g',0,none⟩) (p+1) cap') (p+1) (rcells (passR W H x2 x3 N f) A C p ++ [.int .i64 (pw W H p:Int),.int .i64 (ph W H p:Int),.int .i64 x2,.int .i64 x3,vr])) (hg:(w5.alloc o).grownBy w6 (some gl)) (hgg:some gl=some g'∨g'=(w5.alloc o).heap.size):PassI w w6 W H N x2 x3 f v g' cap' (p+1):=by
 have hgl:w.heap.size+1≤gl:=own_block_le hL gl rfl
 have hglt:gl < w1.heap.size:=by
  rcases hL.2 with ⟨e,_⟩ | ⟨g,c,cur,e,_,q,_⟩
  ·cases e
  ·cases e
   exact block_lt q
 have hsz:(w5.alloc o).heap.size=w5.heap.size+1:=by simp
 have hblk:∀ b,b < w1.heap.size→b≠gl→w6.heap[b]?=w1.heap[b]?:=fun b hb hbn=>by
  have h5:b < w5.heap.size:=Nat.lt_of_lt_of_le hb hB.size
  rw[hg.block b (by rw [hsz]; omega) (fun e=>hbn (Option.some.inj e)),Below.heap_alloc w5 o b h5]
  exact hB.block b hb
 have hblk5:∀ b,b < w5.heap.size→b≠gl→w6.heap[b]?=w5.heap[b]?:=fun b hb hbn=>by
  rw[hg.block b (by rw [hsz]; omega) (fun e=>hbn (Option.some.inj e)),Below.heap_alloc w5 o b hb]
 have hs1:=hB1.size
 obtain⟨ar,Gr,cr,rfl,hrow,hGr⟩:=row_of_owns hO
 have ecell:rcells (passR W H x2 x3 N f) (fun i=>if i=p then ar else A i) (fun i=>if i=p then cr else C i) (p+1)=rcells (passR W H x2 x3 N f) A C p ++ [.int .i64 (pw W H p:Int),.int .i64 (ph W H p:Int),.int .i64 x2,.int .i64 x3,.slice ar (pw W H p * ph W H p * N) cr]:=by
  rw[rcells_succ,rcells_congr (A':=A) (C':=C) _ p (fun j hj=>by simp [show ¬ j=p by omega])]
  simp only [if_pos]
  rfl
 refine⟨(hblk _ (by have:=block_lt bx; omega) (by omega)).trans bx,⟨_,fun i=>if i=p then Gr else G i,_,by rw [ecell]; exact hA,fun j hj=>?_,fun j hj hn=>?_⟩,?_⟩
 ·by_cases e:j=p
  ·subst e
   simp only [if_pos]
   refine (show RowOwn w5 (w.heap.size+1) ar Gr (passR W H x2 x3 N f j).n cr (passR W H x2 x3 N f j).f from ⟨hrow.1,hrow.2.1,?_⟩).keep (fun hn=>hblk5 _ (hrow.lt hn).1 (by have:=hGr hn; omega))
   rcases hrow.2.2 with q | ⟨q1,q2⟩
   ·exact .inl q
   ·exact .inr ⟨q1,q2.mono (by omega)⟩
  ·simp only [if_neg e]
   exact (hR j (by omega)).keep (fun hn=>hblk _ ((hR j (by omega)).lt hn).1 (hne j (by omega) hn))
 ·by_cases e:j=p
  ·subst e
   simp only [if_pos]
   have h1:=hGr hn
   have h2:=(hrow.lt hn).1
   rcases hgg with q | q
   ·have:=Option.some.inj q
    omega
   ·omega
  ·simp only [if_neg e]
   have h1:=hne j (by omega) hn
   have h2:=((hR j (by omega)).lt hn).1
   have h3:=hB.size
   rcases hgg with q | q
   ·rw[← Option.some.inj q]
    exact h1
   ·omega
 ·refine⟨?_,?_,?_,?_,fun b hb=>?_⟩
  ·exact hg.os.trans (hB.os.trans hB1.os)
  ·exact hg.tape.trans (hB.tape.trans hB1.tape)
  ·exact hg.output.trans (hB.output.trans hB1.output)
  ·have:=hg.size
   have:=hB.size
   omega
  ·rw[hblk b (by omega) (by omega)]
   exact hB1.block b hb
theorem PassI.out {w w':World} {W H N:Nat} {x2 x3:Int} {f:Nat→Int} {v:Value} {gl cl p:Nat} (h:PassI w w' W H N x2 x3 f v gl cl p):RCame w' (some ⟨gl,0,none⟩) p (passR W H x2 x3 N f):=by
 obtain⟨_,⟨A,G,C,hL,hR,_⟩,_⟩:=h
 rcases hL.2 with ⟨e,_⟩ | ⟨g,c,cur,e,h1,h2,h3,h4,h5,h6⟩
 ·cases e
 ·cases e
  refine .inr ⟨gl,0,A,C,rfl,block_lt h2,fun j hj=>⟨?_,(hR j hj).came,(hR j hj).1,(hR j hj).2.1⟩⟩
  have hc:∀ k,k < p * 5→w'.cell? ⟨gl,k,none⟩=(rcells (passR W H x2 x3 N f) A C p)[k]?:=fun k hk=>by
   rw[cell_of_block h2 k,← h6,List.getElem?_take,if_pos hk]
   simp
  have q:=rcells_get (passR W H x2 x3 N f) A C p j hj
  unfold RasAt
  rw[Nat.zero_add,hc _ (by omega),hc _ (by omega),hc _ (by omega),hc _ (by omega),hc _ (by omega)]
  exact q
end
section
open Go.RowKit RastMath PassMath
def passesR (r:Ras):Nat→Ras:=passR r.x0.toNat r.x1.toNat r.x2 r.x3 (chan r.x2).toNat r.f
def RasOk (r:Ras):Prop:=RasR r.x0 r.x1 r.x2 r.x3 r.n r.f
theorem ras_parts {r:Ras} (h:RasOk r):∃ W H N:Nat,r.x0=(W:Int)∧r.x1=(H:Int)∧chan r.x2=(N:Int)∧(1≤W∧W≤24)∧(1≤H∧H≤24)∧(1≤N∧N≤4)∧r.n=W * H * N∧passesR r=passR W H r.x2 r.x3 N r.f:=by
 obtain⟨h0,h1,h2,h3,_⟩:=h
 have hc1:=chan_pos h2
 have hc2:=chan_range r.x2
 unfold SideR at h0 h1
 refine⟨r.x0.toNat,r.x1.toNat,(chan r.x2).toNat,by omega,by omega,by omega,by omega,by omega,by omega,?_,rfl⟩
 have e0:((r.x0.toNat:Nat):Int)=r.x0:=by omega
 have e1:((r.x1.toNat:Nat):Int)=r.x1:=by omega
 have e2:(((chan r.x2).toNat:Nat):Int)=chan r.x2:=by omega
 have:(r.n:Int)=((r.x0.toNat * r.x1.toNat * (chan r.x2).toNat:Nat):Int):=by
  rw[h3,Int.natCast_mul,Int.natCast_mul,e0,e1,e2]
 exact Int.ofNat.inj this
theorem RasOk.same {r s:Ras} (h:RasOk r) (e:r.same s):RasOk s:=by
 obtain⟨e0,e1,e2,e3,e4,e5⟩:=e
 unfold RasOk RasR at h ⊢
 rw[← e0,← e1,← e2,← e3,← e4]
 refine⟨h.1,h.2.1,h.2.2.1,h.2.2.2.1,fun i hi=>?_⟩
 rw[← e5 i hi]
 exact h.2.2.2.2 i hi
end
section
namespace FiltMath
open TakeMath
def siz (x:Int):Int:=if x < 0 then -x else x
def paeth (a b c:Int):Int:=
 if siz (a+b - c - a)≤siz (a+b - c - b)∧siz (a+b - c - a)≤siz (a+b - c - c) then a else if siz (a+b - c - b)≤siz (a+b - c - c) then b else c
abbrev PR (x:Int):Prop:=-1000≤x∧x≤1000
theorem paeth_one (a b c:Int):paeth a b c=a∨paeth a b c=b∨paeth a b c=c:=by
 unfold paeth
 split
 ·exact .inl rfl
 ·split
  ·exact .inr (.inl rfl)
  ·exact .inr (.inr rfl)
theorem paeth_byte {a b c:Int} (ha:0≤a∧a < 256) (hb:0≤b∧b < 256) (hc:0≤c∧c < 256):0≤paeth a b c∧paeth a b c < 256:=by
 rcases paeth_one a b c with h | h | h <;> rw [h] <;> assumption
def told (k a b c:Int):Int:=if k=1 then a else if k=2 then b else if k=3 then (a+b) / 2 else if k=4 then paeth a b c else 0
theorem told_byte (k:Int) {a b c:Int} (ha:0≤a∧a < 256) (hb:0≤b∧b < 256) (hc:0≤c∧c < 256):0≤told k a b c∧told k a b c < 256:=by
 unfold told
 have:=paeth_byte ha hb hc
 split
 ·exact ha
 split
 ·exact hb
 split
 ·omega
 split
 ·exact this
 ·omega
def aheadB (r:Nat→Int) (unit at_:Nat):Int:=if unit≤at_ then r (at_ - unit) else 0
theorem ahead_byte {r:Nat→Int} (h:∀ i,0≤r i∧r i < 256) (u i:Nat):0≤aheadB r u i∧aheadB r u i < 256:=by
 unfold aheadB
 split
 ·exact h _
 ·omega
def says (k:Int) (r u:Nat→Int) (unit i:Nat):Int:=told k (aheadB r unit i) (u i) (aheadB u unit i)
theorem says_byte (k:Int) {r u:Nat→Int} (hr:∀ i,0≤r i∧r i < 256) (hu:∀ i,0≤u i∧u i < 256) (unit i:Nat):0≤says k r u unit i∧says k r u unit i < 256:=
 told_byte k (ahead_byte hr _ _) (hu i) (ahead_byte hu _ _)
def filtB (k:Int) (r u:Nat→Int) (unit i:Nat):Int:=(r i+256 - says k r u unit i) % 256
def filtL (k:Int) (r u:Nat→Int) (unit n:Nat):List Int:=(List.range n).map (filtB k r u unit)
theorem filtB_byte (k:Int) (r u:Nat→Int) (unit i:Nat):0≤filtB k r u unit i∧filtB k r u unit i < 256:=by unfold filtB; omega
theorem filtL_next (k:Int) (r u:Nat→Int) (unit n:Nat):filtL k r u unit (n+1)=filtL k r u unit n ++ [filtB k r u unit n]:=by simp [filtL,List.range_succ]
theorem filtL_length (k:Int) (r u:Nat→Int) (unit n:Nat):(filtL k r u unit n).length=n:=by simp [filtL]
theorem filtL_get (k:Int) (r u:Nat→Int) (unit n i:Nat) (h:i < n):(filtL k r u unit n).getD i 0=filtB k r u unit i:=by simp [filtL,h]
def wgt (x:Int):Int:=if 127 < x then 256 - x else x
def wsum (r:Nat→Int):Nat→Int
 | 0=>0
 | n+1=>wsum r n+wgt (r n)
theorem wsum_range {r:Nat→Int} (h:∀ i,0≤r i∧r i < 256):∀ n:Nat,0≤wsum r n∧wsum r n≤128 * (n:Int)
 | 0=>by show (0:Int)≤0∧(0:Int)≤128 * 0; omega
 | n+1=>by
  have h1:=wsum_range h n
  have h2:=h n
  have h3:0≤wgt (r n)∧wgt (r n)≤128:=by unfold wgt; split <;> omega
  show 0≤wsum r n+wgt (r n)∧wsum r n+wgt (r n)≤_
  omega
theorem wsum_congr {r r':Nat→Int}:∀ n:Nat,(∀ i,i < n→r i=r' i)→wsum r n=wsum r' n
 | 0,_=>rfl
 | n+1,h=>by
  show wsum r n+wgt (r n)=wsum r' n+wgt (r' n)
  rw[wsum_congr n fun i hi=>h i (by omega),h n (by omega)]
def least (f:Nat→Int):Nat→Nat
 | 0=>0
 | n+1=>if f (n+1) < f (least f n) then n+1 else least f n
theorem least_le (f:Nat→Int):∀ n,least f n≤n
 | 0=>Nat.le_refl _
 | n+1=>by
  have:=least_le f n
  unfold least
  split
  ·exact Nat.le_refl _
  ·exact Nat.le_succ_of_le this
abbrev FiltR (k:Int) (row above:ByteArray) (unit:Int):Prop:=(0≤k∧k≤4)∧(1≤unit∧unit≤8)∧row.size=above.size∧row.size≤200
def bts (s:ByteArray) (i:Nat):Int:=(byteAt s i:Int)
theorem bts_byte (s:ByteArray) (i:Nat):0≤bts s i∧bts s i < 256:=by
 have:=byteAt_lt s i
 unfold bts
 omega
def filtT (k:Int) (row above:ByteArray) (unit:Nat):ByteArray:=strOfNums (filtL k (bts row) (bts above) unit row.size)
def weight (s:ByteArray):Int:=if s.size≤200 then wsum (bts s) s.size else -1
end FiltMath
end
section
namespace FiltMath
open TakeMath
def filtV (k:Int) (row above:ByteArray) (unit:Int):ByteArray:=if FiltR k row above unit then filtT k row above unit.toNat else ⟨#[]⟩
theorem filtT_size (k:Int) (row above:ByteArray) (unit:Nat):(filtT k row above unit).size=row.size:=(strOfNums_size _).trans (filtL_length _ _ _ _ _)
theorem FiltR.kind {k j:Int} {row above:ByteArray} {unit:Int} (h:FiltR k row above unit) (hj:0≤j∧j≤4):FiltR j row above unit:=⟨hj,h.2⟩
def wk (row above:ByteArray) (unit:Nat) (k:Nat):Int:=weight (filtT (k:Int) row above unit)
def bestV (row above:ByteArray) (unit:Int):Int:=if FiltR 0 row above unit then (least (wk row above unit.toNat) 4:Nat) else 0
theorem weight_range (s:ByteArray) (h:s.size≤200):0≤weight s∧weight s≤25600:=by
 unfold weight
 rw[if_pos h]
 have:=wsum_range (bts_byte s) s.size
 omega
theorem wk_range (row above:ByteArray) (unit k:Nat) (h:row.size≤200):0≤wk row above unit k∧wk row above unit k≤25600:=weight_range _ (by rw [filtT_size]; exact h)
theorem bts_str {L:List Int} (h:∀ x∈L,0≤x∧x < 256) (i:Nat) (hi:i < L.length):bts (strOfNums L) i=L.getD i 0:=by
 have hx:=h _ (List.getElem_mem hi)
 unfold bts byteAt
 have e:(strOfNums L).data[i]?=some (UInt8.ofNat (L[i]).toNat):=by
  rw[← Array.getElem?_toList,strOfNums_data,List.getElem?_map,List.getElem?_eq_getElem hi]
  rfl
 rw[e,List.getD_eq_getElem?_getD,List.getElem?_eq_getElem hi]
 show ((UInt8.ofNat (L[i]).toNat).toNat:Int)=L[i]
 rw[UInt8.toNat_ofNat',Nat.mod_eq_of_lt (by omega)]
 omega
end FiltMath
end
section
namespace ScanMath
open Go.RowKit OutMath TakeMath RastMath FiltMath
def nums (s:ByteArray):List Int:=(List.range s.size).map (bts s)
theorem nums_length (s:ByteArray):(nums s).length=s.size:=by simp [nums]
theorem nums_get (s:ByteArray) (i:Nat) (h:i < s.size):(nums s).getD i 0=bts s i:=by simp [nums,h]
def zeroT (n:Nat):ByteArray:=strOfNums (List.replicate n 0)
theorem zeroT_size (n:Nat):(zeroT n).size=n:=(strOfNums_size _).trans (List.length_replicate ..)
def unitN (N D:Nat):Nat:=if N * D / 8 < 1 then 1 else N * D / 8
theorem unitN_range {N D:Nat} (hN:N≤4) (hD:D≤16):1≤unitN N D∧unitN N D≤8:=by
 have h:=Nat.mul_le_mul hN hD
 unfold unitN
 split
 ·omega
 ·refine⟨by omega,?_⟩
  exact Nat.le_trans (Nat.div_le_div_right h) (by omega)
def rb (s D:Nat):Nat:=(s * D+7) / 8
def rowT (f:Nat→Int) (s D j:Nat):ByteArray:=packT (fun i=>f (j * s+i)) s D
theorem rowT_size (f:Nat→Int) (s D j:Nat):(rowT f s D j).size=rb s D:=by
 unfold rowT packT
 rw[strOfNums_size]
 exact packN_length _ _ _ _
def aboveT (f:Nat→Int) (s D:Nat):Nat→ByteArray
 | 0=>zeroT (rb s D)
 | j+1=>rowT f s D j
theorem aboveT_size (f:Nat→Int) (s D:Nat):∀ j,(aboveT f s D j).size=rb s D
 | 0=>zeroT_size _
 | j+1=>rowT_size f s D j
def kindV (way:Int) (row above:ByteArray) (u:Nat):Int:=if way=5 then bestV row above (u:Int) else way
theorem kindV_range {way:Int} (h:0≤way∧way≤5) (row above:ByteArray) (u:Nat):0≤kindV way row above u∧kindV way row above u≤4:=by
 unfold kindV
 split
 ·unfold bestV
  split
  ·have:=least_le (wk row above (u:Int).toNat) 4
   omega
  ·omega
 ·omega
def lineL (way:Int) (f:Nat→Int) (s D u j:Nat):List Int:=kindV way (rowT f s D j) (aboveT f s D j) u :: nums (filtV (kindV way (rowT f s D j) (aboveT f s D j) u) (rowT f s D j) (aboveT f s D j) (u:Int))
def linesL (way:Int) (f:Nat→Int) (s D u:Nat):Nat→List Int
 | 0=>[]
 | j+1=>linesL way f s D u j ++ lineL way f s D u j
theorem linesL_succ (way:Int) (f:Nat→Int) (s D u j:Nat):linesL way f s D u (j+1)=linesL way f s D u j ++ lineL way f s D u j:=rfl
section
variable {way:Int} {f:Nat→Int} {s D u:Nat}
theorem row_right (hw:0≤way∧way≤5) (hu:1≤u∧u≤8) (hb:rb s D≤200) (j:Nat):FiltR (kindV way (rowT f s D j) (aboveT f s D j) u) (rowT f s D j) (aboveT f s D j) (u:Int):=
 ⟨kindV_range hw _ _ _,⟨by omega,by omega⟩,by rw [rowT_size,aboveT_size],by rw [rowT_size]; exact hb⟩
theorem lineL_length (hw:0≤way∧way≤5) (hu:1≤u∧u≤8) (hb:rb s D≤200) (j:Nat):(lineL way f s D u j).length=rb s D+1:=by
 unfold lineL
 rw[List.length_cons,nums_length]
 unfold filtV
 rw[if_pos (row_right hw hu hb j),filtT_size,rowT_size]
theorem linesL_length (hw:0≤way∧way≤5) (hu:1≤u∧u≤8) (hb:rb s D≤200):∀ j,(linesL way f s D u j).length=j * (rb s D+1)
 | 0=>by simp [linesL]
 | j+1=>by
  rw[linesL_succ,List.length_append,linesL_length hw hu hb j,lineL_length hw hu hb,Nat.add_mul,Nat.one_mul]
end
def partsL (L:Nat→List Int):Nat→List Int
 | 0=>[]
 | p+1=>partsL L p ++ L p
theorem partsL_succ (L:Nat→List Int) (p:Nat):partsL L (p+1)=partsL L p ++ L p:=rfl
def offP (cw ch:Nat→Nat) (N D:Nat):Nat→Nat
 | 0=>0
 | p+1=>offP cw ch N D p+ch p * (rb (cw p * N) D+1)
theorem offP_succ (cw ch:Nat→Nat) (N D p:Nat):offP cw ch N D (p+1)=offP cw ch N D p+ch p * (rb (cw p * N) D+1):=rfl
theorem offP_mono {cw ch : Nat → Nat} {N D p q : Nat} (h : p ≤ q) : offP cw ch N D p ≤ offP cw ch N D q := by
  induction q with
  | zero => obtain rfl : p = 0 := by omega
            exact Nat.le_refl _
  | succ q ih =>
    by_cases e : p = q + 1
    · rw [e]; exact Nat.le_refl _
    · exact Nat.le_trans (ih (by omega)) (Nat.le_add_right _ _)
theorem partsL_length {L:Nat→List Int} {cw ch:Nat→Nat} {N D:Nat}:∀ K,(∀ p,p < K→(L p).length=ch p * (rb (cw p * N) D+1))→(partsL L K).length=offP cw ch N D K
 | 0,_=>rfl
 | K+1,h=>by rw [partsL_succ,List.length_append,partsL_length K (fun p hp=>h p (by omega)),h K (by omega),offP_succ]
end ScanMath
end
end Go.Proofs.YtcbbcadfolgioaaDoor
