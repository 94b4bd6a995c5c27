/-
  Texts of the proof, put together.
-/
import Derived.Test.YtcbbcadfolgioaaDoorPf03
import Derived.Deep.AppendLies
namespace Go.Proofs.YtcbbcadfolgioaaDoor
section
open Go.RowKit Go.Joins PassMath
def passR (W H:Nat) (x2 x3:Int) (N:Nat) (f:Nat→Int) (p:Nat):Ras:=⟨(pw W H p:Int),(ph W H p:Int),x2,x3,pw W H p * ph W H p * N,passF W H N f p⟩
def rcells (R:Nat→Ras) (A:Nat→Option Addr) (C:Nat→Nat):Nat→List Value
 | 0=>[]
 | m+1=>rcells R A C m ++ [.int .i64 (R m).x0,.int .i64 (R m).x1,.int .i64 (R m).x2,.int .i64 (R m).x3,.slice (A m) (R m).n (C m)]
theorem rcells_succ (R:Nat→Ras) (A:Nat→Option Addr) (C:Nat→Nat) (m:Nat):rcells R A C (m+1)=rcells R A C m ++ [.int .i64 (R m).x0,.int .i64 (R m).x1,.int .i64 (R m).x2,.int .i64 (R m).x3,.slice (A m) (R m).n (C m)]:=rfl
theorem rcells_length (R:Nat→Ras) (A:Nat→Option Addr) (C:Nat→Nat):∀ m,(rcells R A C m).length=m * 5
 | 0=>rfl
 | m+1=>by simp [rcells,rcells_length R A C m]; omega
theorem rcells_congr (R:Nat→Ras) {A A':Nat→Option Addr} {C C':Nat→Nat}:∀ m,(∀ j,j < m→A j=A' j∧C j=C' j)→rcells R A C m=rcells R A' C' m
 | 0,_=>rfl
 | m+1,h=>by
  unfold rcells
  rw[rcells_congr R m (fun j hj=>h j (by omega)),(h m (by omega)).1,(h m (by omega)).2]
theorem rcells_get (R:Nat→Ras) (A:Nat→Option Addr) (C:Nat→Nat):∀ m j,j < m→(rcells R A C m)[j * 5]?=some (.int .i64 (R j).x0)∧(rcells R A C m)[j * 5+1]?=some (.int .i64 (R j).x1)∧(rcells R A C m)[j * 5+2]?=some (.int .i64 (R j).x2)∧(rcells R A C m)[j * 5+3]?=some (.int .i64 (R j).x3)∧(rcells R A C m)[j * 5+4]?=some (.slice (A j) (R j).n (C j))
 | 0,j,h=>absurd h (Nat.not_lt_zero j)
 | m+1,j,h=>by
  unfold rcells
  by_cases e:j=m
  ·subst e
   have hl:=rcells_length R A C j
   refine⟨?_,?_,?_,?_,?_⟩
   ·rw[List.getElem?_append_right (by omega),hl,Nat.sub_self]; rfl
   ·rw[List.getElem?_append_right (by omega),hl,Nat.add_sub_cancel_left]; rfl
   ·rw[List.getElem?_append_right (by omega),hl,Nat.add_sub_cancel_left]; rfl
   ·rw[List.getElem?_append_right (by omega),hl,Nat.add_sub_cancel_left]; rfl
   ·rw[List.getElem?_append_right (by omega),hl,Nat.add_sub_cancel_left]; rfl
  ·have ih:=rcells_get R A C m j (by omega)
   have hl:=rcells_length R A C m
   refine⟨?_,?_,?_,?_,?_⟩
   ·rw[List.getElem?_append_left (by omega)]; exact ih.1
   ·rw[List.getElem?_append_left (by omega)]; exact ih.2.1
   ·rw[List.getElem?_append_left (by omega)]; exact ih.2.2.1
   ·rw[List.getElem?_append_left (by omega)]; exact ih.2.2.2.1
   ·rw[List.getElem?_append_left (by omega)]; exact ih.2.2.2.2
def PassI (w w':World) (W H N:Nat) (x2 x3:Int) (f:Nat→Int) (v:Value) (gl cl p:Nat):Prop:=
 w'.heap[w.heap.size]?=some (.cells #[.int .i64 (W:Int),.int .i64 (H:Int),.int .i64 x2,.int .i64 x3,v] 26 (0,0))∧
 (∃ (A:Nat→Option Addr) (G C:Nat→Nat),w'.ownsRow (w.heap.size+1) 26 5 (.slice (some ⟨gl,0,none⟩) p cl) p (rcells (passR W H x2 x3 N f) A C p)∧(∀ j,j < p→RowOwn w' (w.heap.size+1) (A j) (G j) (passR W H x2 x3 N f j).n (C j) (passR W H x2 x3 N f j).f)∧∀ j,j < p→0 < (passR W H x2 x3 N f j).n→G j≠gl)∧
 Below w.heap.size w w'
theorem passI_start (w:World) (W H N:Nat) (x2 x3:Int) (f:Nat→Int) (v:Value):PassI w ((w.alloc (.cells #[.int .i64 (W:Int),.int .i64 (H:Int),.int .i64 x2,.int .i64 x3,v] 26)).alloc (.cells #[] 26)) W H N x2 x3 f v (w.heap.size+1) 0 0:=by
 refine⟨?_,⟨fun _=>none,fun _=>0,fun _=>0,⟨rfl,.inr ⟨w.heap.size+1,0,#[],rfl,Nat.le_refl _,?_,Nat.le_refl _,Nat.zero_le _,rfl,rfl⟩⟩,fun j hj=>absurd hj (Nat.not_lt_zero j),fun j hj=>absurd hj (Nat.not_lt_zero j)⟩,bal (bstart _ _) _⟩
 ·exact (Below.heap_alloc (w.alloc _) _ _ (by simp)).trans (heap_alloc_new w _)
 ·have:=heap_alloc_new (w.alloc (.cells #[.int .i64 (W:Int),.int .i64 (H:Int),.int .i64 x2,.int .i64 x3,v] 26)) (.cells #[] 26)
  simpa using this
theorem PassI.box {w w':World} {W H N:Nat} {x2 x3:Int} {f:Nat→Int} {v:Value} {gl cl p:Nat} (h:PassI w w' W H N x2 x3 f v gl cl p):
  w'.cell? ⟨w.heap.size,0,none⟩=some (.int .i64 (W:Int))∧w'.cell? ⟨w.heap.size,1,none⟩=some (.int .i64 (H:Int))∧w'.cell? ⟨w.heap.size,2,none⟩=some (.int .i64 x2)∧w'.cell? ⟨w.heap.size,3,none⟩=some (.int .i64 x3)∧w'.cell? ⟨w.heap.size,4,none⟩=some v∧w.heap.size < w'.heap.size:=
 ⟨(cell_of_block h.1 0).trans rfl,(cell_of_block h.1 1).trans rfl,(cell_of_block h.1 2).trans rfl,(cell_of_block h.1 3).trans rfl,(cell_of_block h.1 4).trans rfl,block_lt h.1⟩
def RowI (w1 w':World) (x0 x1 x2 x3:Int) (F:Nat→Int) (k:Nat):Prop:=∃ v,w'.heap[w1.heap.size]?=some (.cells #[.int .i64 x0,.int .i64 x1,.int .i64 x2,.int .i64 x3,v] 26 (0,0))∧w'.ownsRow (w1.heap.size+1) 3 1 v k (fints F k)∧Below w1.heap.size w1 w'
theorem rowI_start (w1:World) (x0 x1 x2 x3:Int) (F:Nat→Int):RowI w1 (w1.alloc (.cells #[.int .i64 x0,.int .i64 x1,.int .i64 x2,.int .i64 x3,.slice none 0 0] 26)) x0 x1 x2 x3 F 0:=⟨_,heap_alloc_new w1 _,⟨rfl,.inl ⟨rfl,rfl⟩⟩,bstart _ _⟩
theorem fints_more (F:Nat→Int) (k n:Nat):fints F (k+n)=fints F k ++ (List.range n).map fun c=>.int .i64 (F (k+c)):=by
 unfold fints
 rw[List.range_add,List.map_append,List.map_map]
 rfl
theorem rowI_next {w1 wr w3:World} {x0 x1 x2 x3:Int} {F:Nat→Int} {k n g cap:Nat} {v:Value} (h1:wr.heap[w1.heap.size]?=some (.cells #[.int .i64 x0,.int .i64 x1,.int .i64 x2,.int .i64 x3,v] 26 (0,0))) (hB:Below w1.heap.size w1 wr) (hv:∀ q,v.ownBlock=some q→w1.heap.size+1≤q) (hO:w3.ownsRow (w1.heap.size+1) 3 1 (.slice (some ⟨g,0,none⟩) (k+n) cap) (k+n) (fints F k ++ (List.range n).map fun c=>.int .i64 (F (k+c)))) (hg:wr.grownBy w3 v.ownBlock):
  RowI w1 (w3.setCell ⟨w1.heap.size,4,none⟩ (.slice (some ⟨g,0,none⟩) (k+n) cap)) x0 x1 x2 x3 F (k+n):=by
 have hl:=block_lt h1
 have h3:w3.heap[w1.heap.size]?=some (.cells #[.int .i64 x0,.int .i64 x1,.int .i64 x2,.int .i64 x3,v] 26 (0,0)):=(hg.block _ hl (fun e=>by have:=hv _ e.symm; omega)).trans h1
 refine⟨.slice (some ⟨g,0,none⟩) (k+n) cap,?_,?_,?_⟩
 ·simp[World.setCell,Array.getElem?_modify,h3]
 ·rw[fints_more]
  obtain⟨q1,q2⟩:=hO
  refine⟨q1,?_⟩
  rcases q2 with ⟨e,_⟩ | ⟨g',c',cur,e,r1,r2,r3⟩
  ·cases e
  ·refine .inr ⟨g',c',cur,e,r1,?_,r3⟩
   rw[heap_setCell_other _ _ _ _ (by show ¬ g'=w1.heap.size; omega)]
   exact r2
 ·refine Below.setCell ?_ (by exact Nat.le_refl _) _
  exact⟨hg.os.trans hB.os,hg.tape.trans hB.tape,hg.output.trans hB.output,Nat.le_trans hB.size hg.size,fun b hb=>(hg.block b (Nat.lt_of_lt_of_le hb hB.size) (fun e=>by have:=hv _ e.symm; omega)).trans (hB.block b hb)⟩
theorem own_block_le {w:World} {S n:Nat} {e:TypeId} {m:Nat} {v:Value} {xs:List Value} (h:w.ownsRow S e m v n xs):∀ q,v.ownBlock=some q→S≤q:=by
 intro q hq
 rcases h.2 with ⟨rfl,_⟩ | ⟨g,c,cur,rfl,h1,_⟩
 ·cases hq
 ·cases hq
  exact h1
theorem row_of_owns {w:World} {S k:Nat} {v:Value} {F:Nat→Int} (h:w.ownsRow S 3 1 v k (fints F k)):∃ a G c,v=.slice a k c∧RowOwn w S a G k c F∧(0 < k→S≤G):=by
 rcases h.2 with ⟨rfl,rfl⟩ | ⟨g,c,cur,rfl,h1,h2,h3,h4,h5,h6⟩
 ·exact⟨none,0,0,rfl,⟨Nat.le_refl _,Nat.zero_le _,.inl rfl⟩,fun h=>absurd h (Nat.lt_irrefl 0)⟩
 ·refine⟨some ⟨g,0,none⟩,g,c,rfl,⟨h3,h4,.inr ⟨rfl,?_⟩⟩,fun _=>h1⟩
  rw[Nat.mul_one] at h6
  exact⟨c,cur,(0,0),by rw [fints_length],h1,h2,.inl rfl,by rw [fints_length]; exact h3,h4,by rw [h5,Nat.mul_one],by rw [fints_length]; exact h6⟩
theorem passI_next {w w1 w5 w6:World} {W H N:Nat} {x2 x3:Int} {f:Nat→Int} {v vr:Value} {gl cl p g' cap':Nat} {A:Nat→Option Addr} {G C:Nat→Nat} {o:Obj}
  (bx:w1.heap[w.heap.size]?=some (.cells #[.int .i64 (W:Int),.int .i64 (H:Int),.int .i64 x2,.int .i64 x3,v] 26 (0,0)))
  (hL:w1.ownsRow (w.heap.size+1) 26 5 (.slice (some ⟨gl,0,none⟩) p cl) p (rcells (passR W H x2 x3 N f) A C p)) (hR:∀ j,j < p→RowOwn w1 (w.heap.size+1) (A j) (G j) (passR W H x2 x3 N f j).n (C j) (passR W H x2 x3 N f j).f) (hne:∀ j,j < p→0 < (passR W H x2 x3 N f j).n→G j≠gl) (hB1:Below w.heap.size w w1)
  (hO:w5.ownsRow (w1.heap.size+1) 3 1 vr (pw W H p * ph W H p * N) (fints (passF W H N f p) (pw W H p * ph W H p * N))) (hB:Below w1.heap.size w1 w5)
  (hA:w6.ownsRow (w.heap.size+1) 26 5 (.slice (some ⟨g',0,none⟩) (p+1) cap') (p+1) (rcells (passR W H x2 x3 N f) A C p ++ [.int .i64 (pw W H p:Int),.int .i64 (ph W H p:Int),.int .i64 x2,.int .i64 x3,vr])) (hg:(w5.alloc o).grownBy w6 (some gl)) (hgg:some gl=some g'∨g'=(w5.alloc o).heap.size):PassI w w6 W H N x2 x3 f v g' cap' (p+1):=by
 have hgl:w.heap.size+1≤gl:=own_block_le hL gl rfl
 have hglt:gl < w1.heap.size:=by
  rcases hL.2 with ⟨e,_⟩ | ⟨g,c,cur,e,_,q,_⟩
  ·cases e
  ·cases e
   exact block_lt q
 have hsz:(w5.alloc o).heap.size=w5.heap.size+1:=by simp
 have hblk:∀ b,b < w1.heap.size→b≠gl→w6.heap[b]?=w1.heap[b]?:=fun b hb hbn=>by
  have h5:b < w5.heap.size:=Nat.lt_of_lt_of_le hb hB.size
  rw[hg.block b (by rw [hsz]; omega) (fun e=>hbn (Option.some.inj e)),Below.heap_alloc w5 o b h5]
  exact hB.block b hb
 have hblk5:∀ b,b < w5.heap.size→b≠gl→w6.heap[b]?=w5.heap[b]?:=fun b hb hbn=>by
  rw[hg.block b (by rw [hsz]; omega) (fun e=>hbn (Option.some.inj e)),Below.heap_alloc w5 o b hb]
 have hs1:=hB1.size
 obtain⟨ar,Gr,cr,rfl,hrow,hGr⟩:=row_of_owns hO
 have ecell:rcells (passR W H x2 x3 N f) (fun i=>if i=p then ar else A i) (fun i=>if i=p then cr else C i) (p+1)=rcells (passR W H x2 x3 N f) A C p ++ [.int .i64 (pw W H p:Int),.int .i64 (ph W H p:Int),.int .i64 x2,.int .i64 x3,.slice ar (pw W H p * ph W H p * N) cr]:=by
  rw[rcells_succ,rcells_congr (A':=A) (C':=C) _ p (fun j hj=>by simp [show ¬ j=p by omega])]
  simp only [if_pos]
  rfl
 refine⟨(hblk _ (by have:=block_lt bx; omega) (by omega)).trans bx,⟨_,fun i=>if i=p then Gr else G i,_,by rw [ecell]; exact hA,fun j hj=>?_,fun j hj hn=>?_⟩,?_⟩
 ·by_cases e:j=p
  ·subst e
   simp only [if_pos]
   refine (show RowOwn w5 (w.heap.size+1) ar Gr (passR W H x2 x3 N f j).n cr (passR W H x2 x3 N f j).f from ⟨hrow.1,hrow.2.1,?_⟩).keep (fun hn=>hblk5 _ (hrow.lt hn).1 (by have:=hGr hn; omega))
   rcases hrow.2.2 with q | ⟨q1,q2⟩
   ·exact .inl q
   ·exact .inr ⟨q1,q2.mono (by omega)⟩
  ·simp only [if_neg e]
   exact (hR j (by omega)).keep (fun hn=>hblk _ ((hR j (by omega)).lt hn).1 (hne j (by omega) hn))
 ·by_cases e:j=p
  ·subst e
   simp only [if_pos]
   have h1:=hGr hn
   have h2:=(hrow.lt hn).1
   rcases hgg with q | q
   ·have:=Option.some.inj q
    omega
   ·omega
  ·simp only [if_neg e]
   have h1:=hne j (by omega) hn
   have h2:=((hR j (by omega)).lt hn).1
   have h3:=hB.size
   rcases hgg with q | q
   ·rw[← Option.some.inj q]
    exact h1
   ·omega
 ·refine⟨?_,?_,?_,?_,fun b hb=>?_⟩
  ·exact hg.os.trans (hB.os.trans hB1.os)
  ·exact hg.tape.trans (hB.tape.trans hB1.tape)
  ·exact hg.output.trans (hB.output.trans hB1.output)
  ·have:=hg.size
   have:=hB.size
   omega
  ·rw[hblk b (by omega) (by omega)]
   exact hB1.block b hb
theorem PassI.out {w w':World} {W H N:Nat} {x2 x3:Int} {f:Nat→Int} {v:Value} {gl cl p:Nat} (h:PassI w w' W H N x2 x3 f v gl cl p):RCame w' (some ⟨gl,0,none⟩) p (passR W H x2 x3 N f):=by
 obtain⟨_,⟨A,G,C,hL,hR,_⟩,_⟩:=h
 rcases hL.2 with ⟨e,_⟩ | ⟨g,c,cur,e,h1,h2,h3,h4,h5,h6⟩
 ·cases e
 ·cases e
  refine .inr ⟨gl,0,A,C,rfl,block_lt h2,fun j hj=>⟨?_,(hR j hj).came,(hR j hj).1,(hR j hj).2.1⟩⟩
  have hc:∀ k,k < p * 5→w'.cell? ⟨gl,k,none⟩=(rcells (passR W H x2 x3 N f) A C p)[k]?:=fun k hk=>by
   rw[cell_of_block h2 k,← h6,List.getElem?_take,if_pos hk]
   simp
  have q:=rcells_get (passR W H x2 x3 N f) A C p j hj
  unfold RasAt
  rw[Nat.zero_add,hc _ (by omega),hc _ (by omega),hc _ (by omega),hc _ (by omega),hc _ (by omega)]
  exact q
end
section
open Go.RowKit RastMath PassMath
def passesR (r:Ras):Nat→Ras:=passR r.x0.toNat r.x1.toNat r.x2 r.x3 (chan r.x2).toNat r.f
def RasOk (r:Ras):Prop:=RasR r.x0 r.x1 r.x2 r.x3 r.n r.f
theorem ras_parts {r:Ras} (h:RasOk r):∃ W H N:Nat,r.x0=(W:Int)∧r.x1=(H:Int)∧chan r.x2=(N:Int)∧(1≤W∧W≤24)∧(1≤H∧H≤24)∧(1≤N∧N≤4)∧r.n=W * H * N∧passesR r=passR W H r.x2 r.x3 N r.f:=by
 obtain⟨h0,h1,h2,h3,_⟩:=h
 have hc1:=chan_pos h2
 have hc2:=chan_range r.x2
 unfold SideR at h0 h1
 refine⟨r.x0.toNat,r.x1.toNat,(chan r.x2).toNat,by omega,by omega,by omega,by omega,by omega,by omega,?_,rfl⟩
 have e0:((r.x0.toNat:Nat):Int)=r.x0:=by omega
 have e1:((r.x1.toNat:Nat):Int)=r.x1:=by omega
 have e2:(((chan r.x2).toNat:Nat):Int)=chan r.x2:=by omega
 have:(r.n:Int)=((r.x0.toNat * r.x1.toNat * (chan r.x2).toNat:Nat):Int):=by
  rw[h3,Int.natCast_mul,Int.natCast_mul,e0,e1,e2]
 exact Int.ofNat.inj this
theorem passes_small {r:Ras} (h:RasOk r) (p:Nat):(passesR r p).n≤2304:=by
 obtain⟨W,H,N,_,_,_,hW,hH,hN,_,e⟩:=ras_parts h
 rw[e]
 show pw W H p * ph W H p * N≤2304
 have h1:=Nat.mul_le_mul (Nat.le_trans (pw_le W H p) hW.2) (Nat.le_trans (ph_le W H p) hH.2)
 exact Nat.le_trans (Nat.mul_le_mul h1 hN.2) (by omega)
def joinR (W H:Int) (R:Nat→Ras):Ras:=⟨W,H,(R 0).x2,(R 0).x3,W.toNat * H.toNat * (chan (R 0).x2).toNat,joinF W.toNat H.toNat (chan (R 0).x2).toNat (fun p k=>(R p).f k)⟩
def FromR (W H:Int) (m:Nat) (R:Nat→Ras):Prop:=m=7∧RasOk (joinR W H R)∧∀ p,p < 7→(R p).same (passesR (joinR W H R) p)
theorem RasOk.same {r s:Ras} (h:RasOk r) (e:r.same s):RasOk s:=by
 obtain⟨e0,e1,e2,e3,e4,e5⟩:=e
 unfold RasOk RasR at h ⊢
 rw[← e0,← e1,← e2,← e3,← e4]
 refine⟨h.1,h.2.1,h.2.2.1,h.2.2.2.1,fun i hi=>?_⟩
 rw[← e5 i hi]
 exact h.2.2.2.2 i hi
end
section
namespace FiltMath
open TakeMath
def siz (x:Int):Int:=if x < 0 then -x else x
def paeth (a b c:Int):Int:=
 if siz (a+b - c - a)≤siz (a+b - c - b)∧siz (a+b - c - a)≤siz (a+b - c - c) then a else if siz (a+b - c - b)≤siz (a+b - c - c) then b else c
abbrev PR (x:Int):Prop:=-1000≤x∧x≤1000
theorem paeth_one (a b c:Int):paeth a b c=a∨paeth a b c=b∨paeth a b c=c:=by
 unfold paeth
 split
 ·exact .inl rfl
 ·split
  ·exact .inr (.inl rfl)
  ·exact .inr (.inr rfl)
theorem paeth_byte {a b c:Int} (ha:0≤a∧a < 256) (hb:0≤b∧b < 256) (hc:0≤c∧c < 256):0≤paeth a b c∧paeth a b c < 256:=by
 rcases paeth_one a b c with h | h | h <;> rw [h] <;> assumption
def told (k a b c:Int):Int:=if k=1 then a else if k=2 then b else if k=3 then (a+b) / 2 else if k=4 then paeth a b c else 0
theorem told_byte (k:Int) {a b c:Int} (ha:0≤a∧a < 256) (hb:0≤b∧b < 256) (hc:0≤c∧c < 256):0≤told k a b c∧told k a b c < 256:=by
 unfold told
 have:=paeth_byte ha hb hc
 split
 ·exact ha
 split
 ·exact hb
 split
 ·omega
 split
 ·exact this
 ·omega
def aheadB (r:Nat→Int) (unit at_:Nat):Int:=if unit≤at_ then r (at_ - unit) else 0
theorem ahead_byte {r:Nat→Int} (h:∀ i,0≤r i∧r i < 256) (u i:Nat):0≤aheadB r u i∧aheadB r u i < 256:=by
 unfold aheadB
 split
 ·exact h _
 ·omega
def says (k:Int) (r u:Nat→Int) (unit i:Nat):Int:=told k (aheadB r unit i) (u i) (aheadB u unit i)
theorem says_byte (k:Int) {r u:Nat→Int} (hr:∀ i,0≤r i∧r i < 256) (hu:∀ i,0≤u i∧u i < 256) (unit i:Nat):0≤says k r u unit i∧says k r u unit i < 256:=
 told_byte k (ahead_byte hr _ _) (hu i) (ahead_byte hu _ _)
def unfL (k:Int) (r u:Nat→Int) (unit:Nat):Nat→List Int
 | 0=>[]
 | n+1=>unfL k r u unit n ++ [(r n+says k (fun j=>(unfL k r u unit n).getD j 0) u unit n) % 256]
theorem unfL_length (k:Int) (r u:Nat→Int) (unit:Nat):∀ n,(unfL k r u unit n).length=n
 | 0=>rfl
 | n+1=>by simp [unfL,unfL_length k r u unit n]
theorem unfL_next (k:Int) (r u:Nat→Int) (unit n:Nat):unfL k r u unit (n+1)=unfL k r u unit n ++ [(r n+says k (fun j=>(unfL k r u unit n).getD j 0) u unit n) % 256]:=rfl
theorem unfL_byte (k:Int) (r u:Nat→Int) (unit:Nat):∀ n,∀ x∈unfL k r u unit n,0≤x∧x < 256
 | 0=>fun x h=>by cases h
 | n+1=>fun x h=>by
  rcases List.mem_append.1 h with h | h
  ·exact unfL_byte k r u unit n x h
  ·rw[List.mem_singleton.1 h]
   omega
theorem getD_byte13 {L:List Int} (h:∀ x∈L,0≤x∧x < 256) (i:Nat):0≤L.getD i 0∧L.getD i 0 < 256:=by
 by_cases hi:i < L.length
 ·rw[List.getD_eq_getElem?_getD,List.getElem?_eq_getElem hi]
  exact h _ (List.getElem_mem hi)
 ·rw[List.getD_eq_getElem?_getD,List.getElem?_eq_none (by omega)]
  show (0:Int)≤0∧(0:Int) < 256
  omega
def least (f:Nat→Int):Nat→Nat
 | 0=>0
 | n+1=>if f (n+1) < f (least f n) then n+1 else least f n
abbrev FiltR (k:Int) (row above:ByteArray) (unit:Int):Prop:=(0≤k∧k≤4)∧(1≤unit∧unit≤8)∧row.size=above.size∧row.size≤200
def bts (s:ByteArray) (i:Nat):Int:=(byteAt s i:Int)
theorem bts_byte (s:ByteArray) (i:Nat):0≤bts s i∧bts s i < 256:=by
 have:=byteAt_lt s i
 unfold bts
 omega
def unfT (k:Int) (row above:ByteArray) (unit:Nat):ByteArray:=strOfNums (unfL k (bts row) (bts above) unit row.size)
end FiltMath
end
section
namespace FiltMath
open TakeMath
def unfV (k:Int) (row above:ByteArray) (unit:Int):ByteArray:=if FiltR k row above unit then unfT k row above unit.toNat else ⟨#[]⟩
theorem FiltR.kind {k j:Int} {row above:ByteArray} {unit:Int} (h:FiltR k row above unit) (hj:0≤j∧j≤4):FiltR j row above unit:=⟨hj,h.2⟩
theorem bts_str {L:List Int} (h:∀ x∈L,0≤x∧x < 256) (i:Nat) (hi:i < L.length):bts (strOfNums L) i=L.getD i 0:=by
 have hx:=h _ (List.getElem_mem hi)
 unfold bts byteAt
 have e:(strOfNums L).data[i]?=some (UInt8.ofNat (L[i]).toNat):=by
  rw[← Array.getElem?_toList,strOfNums_data,List.getElem?_map,List.getElem?_eq_getElem hi]
  rfl
 rw[e,List.getD_eq_getElem?_getD,List.getElem?_eq_getElem hi]
 show ((UInt8.ofNat (L[i]).toNat).toNat:Int)=L[i]
 rw[UInt8.toNat_ofNat',Nat.mod_eq_of_lt (by omega)]
 omega
end FiltMath
end
section
namespace ScanMath
open Go.RowKit OutMath TakeMath RastMath FiltMath
theorem bts_cut (t:ByteArray) (a n i:Nat) (h:a+n≤t.size) (hi:i < n):bts (t.extract a (a+n)) i=bts t (a+i):=by
 unfold bts byteAt
 have e:(t.extract a (a+n)).data[i]?=t.data[a+i]?:=by
  rw[ByteArray.data_extract]
  rw[Array.getElem?_extract,if_pos]
  have:t.data.size=t.size:=rfl
  omega
 rw[e]
theorem cut_size (t:ByteArray) (a n:Nat) (h:a+n≤t.size):(t.extract a (a+n)).size=n:=by
 simp
 omega
def zeroT (n:Nat):ByteArray:=strOfNums (List.replicate n 0)
theorem zeroT_size (n:Nat):(zeroT n).size=n:=(strOfNums_size _).trans (List.length_replicate ..)
def unitN (N D:Nat):Nat:=if N * D / 8 < 1 then 1 else N * D / 8
theorem unitN_range {N D:Nat} (hN:N≤4) (hD:D≤16):1≤unitN N D∧unitN N D≤8:=by
 have h:=Nat.mul_le_mul hN hD
 unfold unitN
 split
 ·omega
 ·refine⟨by omega,?_⟩
  exact Nat.le_trans (Nat.div_le_div_right h) (by omega)
def rb (s D:Nat):Nat:=(s * D+7) / 8
section
variable {way:Int} {f:Nat→Int} {s D u:Nat}
end
def rrow (t:ByteArray) (a b u:Nat):Nat→ByteArray
 | 0=>unfT (bts t a) (t.extract (a+1) (a+1+b)) (zeroT b) u
 | j+1=>unfT (bts t (a+(j+1) * (b+1))) (t.extract (a+(j+1) * (b+1)+1) (a+(j+1) * (b+1)+1+b)) (rrow t a b u j) u
def rabove (t:ByteArray) (a b u:Nat):Nat→ByteArray
 | 0=>zeroT b
 | j+1=>rrow t a b u j
theorem rrow_form (t:ByteArray) (a b u j:Nat):rrow t a b u j=unfT (bts t (a+j * (b+1))) (t.extract (a+j * (b+1)+1) (a+j * (b+1)+1+b)) (rabove t a b u j) u:=by
 cases j with
 | zero=>simp [rrow,rabove]
 | succ j=>rfl
theorem unfT_size (k:Int) (row above:ByteArray) (unit:Nat):(unfT k row above unit).size=row.size:=(strOfNums_size _).trans (unfL_length _ _ _ _ _)
theorem rrow_size {t:ByteArray} {a b u j:Nat} (h:a+(j+1) * (b+1)≤t.size):(rrow t a b u j).size=b:=by
 rw[rrow_form,unfT_size]
 rw[Nat.add_mul,Nat.one_mul] at h
 exact cut_size t _ _ (by omega)
theorem rabove_size {t:ByteArray} {a b u j:Nat} (h:a+j * (b+1)≤t.size):(rabove t a b u j).size=b:=by
 cases j with
 | zero=>exact zeroT_size b
 | succ j=>exact rrow_size h
theorem smp_range (t:ByteArray) (D i:Nat):0≤smp t D i∧smp t D i < p2 D:=hb_range (fun _=>bitOf_range _ _) D
def rsmp (t:ByteArray) (a s D u:Nat) (i:Nat):Int:=smp (rrow t a (rb s D) u (i / s)) D (i % s)
theorem rsmp_fit (t:ByteArray) (a s D u n:Nat):Fit12 (rsmp t a s D u) n D:=fun _ _=>smp_range _ _ _
theorem rsmp_at (t:ByteArray) (a s D u j:Nat) {i:Nat} (hi:i < s):rsmp t a s D u (j * s+i)=smp (rrow t a (rb s D) u j) D i:=by
 unfold rsmp
 have hs:0 < s:=by omega
 rw[Nat.add_comm,Nat.add_mul_div_right _ _ hs,Nat.div_eq_of_lt hi,Nat.zero_add,Nat.add_mul_mod_self_right,Nat.mod_eq_of_lt hi]
def offP (cw ch:Nat→Nat) (N D:Nat):Nat→Nat
 | 0=>0
 | p+1=>offP cw ch N D p+ch p * (rb (cw p * N) D+1)
theorem offP_succ (cw ch:Nat→Nat) (N D p:Nat):offP cw ch N D (p+1)=offP cw ch N D p+ch p * (rb (cw p * N) D+1):=rfl
theorem offP_mono {cw ch : Nat → Nat} {N D p q : Nat} (h : p ≤ q) : offP cw ch N D p ≤ offP cw ch N D q := by
  induction q with
  | zero => obtain rfl : p = 0 := by omega
            exact Nat.le_refl _
  | succ q ih =>
    by_cases e : p = q + 1
    · rw [e]; exact Nat.le_refl _
    · exact Nat.le_trans (ih (by omega)) (Nat.le_add_right _ _)
end ScanMath
end
section
open Go.RowKit RastMath PassMath
def FitsP (W H N:Nat) (x2 x3:Int) (p:Nat) (q:Ras):Prop:=q.x0=(pw W H p:Int)∧q.x1=(ph W H p:Int)∧q.x2=x2∧q.x3=x3∧q.n=pw W H p * ph W H p * N
theorem from_fits {W H N:Nat} {R:Nat→Ras} (hW:1≤W∧W≤24) (hH:1≤H∧H≤24) (hN:chan (R 0).x2=(N:Int)):joinR (W:Int) (H:Int) R=⟨(W:Int),(H:Int),(R 0).x2,(R 0).x3,W * H * N,joinF W H N (fun p k=>(R p).f k)⟩∧(FromR (W:Int) (H:Int) 7 R↔((∀ p,p < 7→FitsP W H N (R 0).x2 (R 0).x3 p (R p))∧RasR (W:Int) (H:Int) (R 0).x2 (R 0).x3 (W * H * N) (joinF W H N (fun p k=>(R p).f k)))):=by
 have ej:joinR (W:Int) (H:Int) R=⟨(W:Int),(H:Int),(R 0).x2,(R 0).x3,W * H * N,joinF W H N (fun p k=>(R p).f k)⟩:=by
  unfold joinR
  rw[hN]
  rfl
 have ep:passesR (joinR (W:Int) (H:Int) R)=passR W H (R 0).x2 (R 0).x3 N (joinF W H N (fun p k=>(R p).f k)):=by
  rw[ej]
  unfold passesR
  show passR (W:Int).toNat (H:Int).toNat (R 0).x2 (R 0).x3 (chan (R 0).x2).toNat _=_
  rw[hN]
  rfl
 refine⟨ej,?_⟩
 unfold FromR RasOk
 rw[ep,ej]
 constructor
 ·rintro⟨_,h1,h2⟩
  refine⟨fun p hp=>?_,h1⟩
  obtain⟨e0,e1,e2,e3,e4,_⟩:=h2 p hp
  exact⟨e0,e1,e2,e3,e4⟩
 ·rintro⟨h2,h1⟩
  refine⟨rfl,h1,fun p hp=>?_⟩
  obtain⟨e0,e1,e2,e3,e4⟩:=h2 p hp
  have hN1:1≤N:=by
   have:=chan_pos h1.2.2.1
   omega
  refine⟨e0,e1,e2,e3,e4,fun i hi=>?_⟩
  rw[e4] at hi
  exact (join_pass hN1 hW.2 hH.2 (fun p k=>(R p).f k) hp hi).symm
end
end Go.Proofs.YtcbbcadfolgioaaDoor
