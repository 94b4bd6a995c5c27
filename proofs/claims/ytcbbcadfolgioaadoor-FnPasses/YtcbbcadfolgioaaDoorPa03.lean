/-
  Texts of the proof, put together.
-/
import Derived.Test.YtcbbcadfolgioaaDoorPa02
import Derived.Deep.AppendLies
import Derived.BigQuiet
namespace Go.Proofs.YtcbbcadfolgioaaDoor
section
open Go.RowKit Go.Joins
structure Ras where
 x0:Int
 x1:Int
 x2:Int
 x3:Int
 n:Nat
 f:Nat→Int
abbrev rasA (r:Ras) (a:Option Addr) (c:Nat):Value:=.agg #[.int .i64 r.x0,.int .i64 r.x1,.int .i64 r.x2,.int .i64 r.x3,.slice a r.n c]
def Ras.same (r s:Ras):Prop:=r.x0=s.x0∧r.x1=s.x1∧r.x2=s.x2∧r.x3=s.x3∧r.n=s.n∧∀ i,i < r.n→r.f i=s.f i
theorem Ras.same.refl (r:Ras):r.same r:=⟨rfl,rfl,rfl,rfl,rfl,fun _ _=>rfl⟩
theorem Ras.same.symm {r s:Ras} (h:r.same s):s.same r:=⟨h.1.symm,h.2.1.symm,h.2.2.1.symm,h.2.2.2.1.symm,h.2.2.2.2.1.symm,fun i hi=>(h.2.2.2.2.2 i (by rw [h.2.2.2.2.1]; exact hi)).symm⟩
theorem Ras.same.trans {r s t:Ras} (h:r.same s) (k:s.same t):r.same t:=⟨h.1.trans k.1,h.2.1.trans k.2.1,h.2.2.1.trans k.2.2.1,h.2.2.2.1.trans k.2.2.2.1,h.2.2.2.2.1.trans k.2.2.2.2.1,fun i hi=>(h.2.2.2.2.2 i hi).trans (k.2.2.2.2.2 i (by rw [← h.2.2.2.2.1]; exact hi))⟩
def RasAt (w:World) (g o:Nat) (r:Ras) (a:Option Addr) (c:Nat):Prop:=
 w.cell? ⟨g,o,none⟩=some (.int .i64 r.x0)∧w.cell? ⟨g,o+1,none⟩=some (.int .i64 r.x1)∧w.cell? ⟨g,o+2,none⟩=some (.int .i64 r.x2)∧w.cell? ⟨g,o+3,none⟩=some (.int .i64 r.x3)∧w.cell? ⟨g,o+4,none⟩=some (.slice a r.n c)
theorem RasAt.same {w:World} {g o:Nat} {r s:Ras} {a:Option Addr} {c:Nat} (h:RasAt w g o r a c) (e:r.same s):RasAt w g o s a c:=by
 obtain⟨e0,e1,e2,e3,e4,_⟩:=e
 unfold RasAt at h ⊢
 rw[← e0,← e1,← e2,← e3,← e4]
 exact h
theorem Came.congr14 {w:World} {a:Option Addr} {n:Nat} {f f':Nat→Int} (h:Came w a n f) (e:∀ i,i < n→f i=f' i):Came w a n f':=by
 rcases h with h | ⟨g,off,ha,hg,hc⟩
 ·exact .inl h
 ·exact .inr ⟨g,off,ha,hg,fun j hj=>by rw [← e j hj]; exact hc j hj⟩
theorem Came.same {w:World} {a:Option Addr} {r s:Ras} (h:Came w a r.n r.f) (e:r.same s):Came w a s.n s.f:=by
 rw[← e.2.2.2.2.1]
 exact h.congr14 e.2.2.2.2.2
def RCame (w:World) (a:Option Addr) (m:Nat) (R:Nat→Ras):Prop:=
 m=0∨∃ (g off:Nat) (A:Nat→Option Addr) (C:Nat→Nat),a=some ⟨g,off,none⟩∧g < w.heap.size∧∀ j,j < m→RasAt w g (off+j * 5) (R j) (A j) (C j)∧Came w (A j) (R j).n (R j).f∧(R j).n≤C j∧C j≤maxLen
theorem RasAt.keep {w w':World} {g o:Nat} {r:Ras} {a:Option Addr} {c:Nat} (h:RasAt w g o r a c) (hb:w'.heap[g]?=w.heap[g]?):RasAt w' g o r a c:=by
 have e:∀ k,w'.cell? ⟨g,k,none⟩=w.cell? ⟨g,k,none⟩:=fun k=>World.cell?_of_block (a:=⟨g,k,none⟩) hb
 unfold RasAt at h ⊢
 simp only [e]
 exact h
theorem RCame.called {w w':World} {a:Option Addr} {m:Nat} {R:Nat→Ras} (h:RCame w a m R) (hb:Below w.heap.size w w'):RCame w' a m R:=by
 rcases h with h | ⟨g,off,A,C,ha,hg,hc⟩
 ·exact .inl h
 ·exact .inr ⟨g,off,A,C,ha,Nat.lt_of_lt_of_le hg hb.size,fun j hj=>⟨(hc j hj).1.keep (hb.block g hg),(hc j hj).2.1.called hb,(hc j hj).2.2⟩⟩
theorem RCame.congr {w:World} {a:Option Addr} {m:Nat} {R S:Nat→Ras} (h:RCame w a m R) (e:∀ j,j < m→(R j).same (S j)):RCame w a m S:=by
 rcases h with h | ⟨g,off,A,C,ha,hg,hc⟩
 ·exact .inl h
 ·exact .inr ⟨g,off,A,C,ha,hg,fun j hj=>⟨(hc j hj).1.same (e j hj),(hc j hj).2.1.same (e j hj),by rw [← (e j hj).2.2.2.2.1]; exact (hc j hj).2.2⟩⟩
def RowOwn (w:World) (base:Nat) (a:Option Addr) (G n c:Nat) (f:Nat→Int):Prop:=n≤c∧c≤maxLen∧(n=0∨a=some ⟨G,0,none⟩∧IOwn w base G n c f)
theorem RowOwn.came {w:World} {base:Nat} {a:Option Addr} {G n c:Nat} {f:Nat→Int} (h:RowOwn w base a G n c f):Came w a n f:=by
 obtain⟨_,_,q⟩:=h
 rcases q with q | ⟨rfl,q⟩
 ·exact .inl q
 ·exact q.sl.came
theorem RowOwn.keep {w w':World} {base:Nat} {a:Option Addr} {G n c:Nat} {f:Nat→Int} (h:RowOwn w base a G n c f) (hk:0 < n→w'.heap[G]?=w.heap[G]?):RowOwn w' base a G n c f:=by
 refine⟨h.1,h.2.1,?_⟩
 rcases Nat.eq_zero_or_pos n with e | e
 ·exact .inl e
 ·rcases h.2.2 with h | ⟨ha,h⟩
  ·exact .inl h
  ·exact .inr ⟨ha,h.keep (hk e)⟩
theorem RowOwn.lt {w:World} {base:Nat} {a:Option Addr} {G n c:Nat} {f:Nat→Int} (h:RowOwn w base a G n c f) (hn:0 < n):G < w.heap.size∧base≤G:=by
 rcases h.2.2 with h | ⟨_,h⟩
 ·omega
 ·exact⟨h.lt,h.base_le⟩
def HeadAt (cur:Array Value) (o:Nat) (r:Ras) (a:Option Addr) (c:Nat):Prop:=
 cur[o]?=some (.int .i64 r.x0)∧cur[o+1]?=some (.int .i64 r.x1)∧cur[o+2]?=some (.int .i64 r.x2)∧cur[o+3]?=some (.int .i64 r.x3)∧cur[o+4]?=some (.slice a r.n c)
def ROwnA (w:World) (base g m:Nat) (R:Nat→Ras) (A:Nat→Option Addr) (G C:Nat→Nat):Prop:=
 base≤g∧(∃ cur,w.heap[g]?=some (.cells cur 26 (0,0))∧m * 5≤cur.size∧∀ j,j < m→HeadAt cur (j * 5) (R j) (A j) (C j))∧
  (∀ j,j < m→RowOwn w base (A j) (G j) (R j).n (C j) (R j).f)∧(∀ j,j < m→0 < (R j).n→G j≠g)∧∀ i j,i < m→j < m→i≠j→0 < (R i).n→0 < (R j).n→G i≠G j
def ROwn (w:World) (base g m:Nat) (R:Nat→Ras):Prop:=∃ A G C,ROwnA w base g m R A G C
section
variable {w w':World} {base g m:Nat} {R S:Nat→Ras} {A:Nat→Option Addr} {G C:Nat→Nat}
theorem ROwnA.lt (h:ROwnA w base g m R A G C):g < w.heap.size:=by
 obtain⟨_,⟨cur,hc,_⟩,_⟩:=h
 exact block_lt hc
theorem ROwn.lt (h:ROwn w base g m R):g < w.heap.size:=by
 obtain⟨A,G,C,h⟩:=h
 exact h.lt
theorem ROwnA.keep (h:ROwnA w base g m R A G C) (hk:∀ b,base≤b→b < w.heap.size→w'.heap[b]?=w.heap[b]?):ROwnA w' base g m R A G C:=by
 have hg:=h.lt
 obtain⟨h1,⟨cur,hc,h2,h3⟩,h4,h5,h6⟩:=h
 exact⟨h1,⟨cur,(hk g h1 hg).trans hc,h2,h3⟩,fun j hj=>(h4 j hj).keep (fun hn=>hk _ ((h4 j hj).lt hn).2 ((h4 j hj).lt hn).1),h5,h6⟩
theorem ROwn.called (h:ROwn w base g m R) (hb:Below w.heap.size w w'):ROwn w' base g m R:=by
 obtain⟨A,G,C,h⟩:=h
 exact⟨A,G,C,h.keep (fun b _ hb'=>hb.block b hb')⟩
theorem ROwnA.at_ (h:ROwnA w base g m R A G C) (j:Nat) (hj:j < m):RasAt w g (j * 5) (R j) (A j) (C j):=by
 obtain⟨_,⟨cur,hc,_,h3⟩,_⟩:=h
 have e:∀ k,w.cell? ⟨g,k,none⟩=cur[k]?:=fun k=>by simp [World.cell?,hc]
 unfold RasAt
 simp only [e]
 exact h3 j hj
theorem ROwnA.free (h:ROwnA w base g m R A G C) (k:Nat):w.frozen? ⟨g,k,none⟩=false:=by
 obtain⟨_,⟨cur,hc,_⟩,_⟩:=h
 simp[World.frozen?,hc]
theorem ROwn.came (h:ROwn w base g m R):RCame w (some ⟨g,0,none⟩) m R:=by
 obtain⟨A,G,C,h⟩:=h
 refine .inr ⟨g,0,A,C,rfl,h.lt,fun j hj=>⟨by rw [Nat.zero_add]; exact h.at_ j hj,(h.2.2.1 j hj).came,(h.2.2.1 j hj).1,(h.2.2.1 j hj).2.1⟩⟩
theorem ROwn.mono {b:Nat} (h:ROwn w base g m R) (hb:b≤base):ROwn w b g m R:=by
 obtain⟨A,G,C,h1,h2,h3,h4⟩:=h
 refine⟨A,G,C,Nat.le_trans hb h1,h2,fun j hj=>⟨(h3 j hj).1,(h3 j hj).2.1,?_⟩,h4⟩
 rcases (h3 j hj).2.2 with h | ⟨ha,h⟩
 ·exact .inl h
 ·exact .inr ⟨ha,h.mono hb⟩
end
def RSL (w:World) (base:Nat) (a:Option Addr) (m:Nat) (R:Nat→Ras):Prop:=m=0∨∃ g,a=some ⟨g,0,none⟩∧ROwn w base g m R
theorem RSL.came {w:World} {base:Nat} {a:Option Addr} {m:Nat} {R:Nat→Ras} (h:RSL w base a m R):RCame w a m R:=by
 rcases h with h | ⟨g,rfl,h⟩
 ·exact .inl h
 ·exact h.came
theorem RSL.called {w w':World} {base:Nat} {a:Option Addr} {m:Nat} {R:Nat→Ras} (h:RSL w base a m R) (hb:Below w.heap.size w w'):RSL w' base a m R:=by
 rcases h with h | ⟨g,rfl,h⟩
 ·exact .inl h
 ·exact .inr ⟨g,rfl,h.called hb⟩
end
section
open Go.RowKit Go.Joins PassMath
def passR (W H:Nat) (x2 x3:Int) (N:Nat) (f:Nat→Int) (p:Nat):Ras:=⟨(pw W H p:Int),(ph W H p:Int),x2,x3,pw W H p * ph W H p * N,passF W H N f p⟩
end
section
open Go.RowKit RastMath PassMath
def passesR (r:Ras):Nat→Ras:=passR r.x0.toNat r.x1.toNat r.x2 r.x3 (chan r.x2).toNat r.f
def RasOk (r:Ras):Prop:=RasR r.x0 r.x1 r.x2 r.x3 r.n r.f
theorem ras_parts {r:Ras} (h:RasOk r):∃ W H N:Nat,r.x0=(W:Int)∧r.x1=(H:Int)∧chan r.x2=(N:Int)∧(1≤W∧W≤24)∧(1≤H∧H≤24)∧(1≤N∧N≤4)∧r.n=W * H * N∧passesR r=passR W H r.x2 r.x3 N r.f:=by
 obtain⟨h0,h1,h2,h3,_⟩:=h
 have hc1:=chan_pos h2
 have hc2:=chan_range r.x2
 unfold SideR at h0 h1
 refine⟨r.x0.toNat,r.x1.toNat,(chan r.x2).toNat,by omega,by omega,by omega,by omega,by omega,by omega,?_,rfl⟩
 have e0:((r.x0.toNat:Nat):Int)=r.x0:=by omega
 have e1:((r.x1.toNat:Nat):Int)=r.x1:=by omega
 have e2:(((chan r.x2).toNat:Nat):Int)=chan r.x2:=by omega
 have:(r.n:Int)=((r.x0.toNat * r.x1.toNat * (chan r.x2).toNat:Nat):Int):=by
  rw[h3,Int.natCast_mul,Int.natCast_mul,e0,e1,e2]
 exact Int.ofNat.inj this
theorem passes_small {r:Ras} (h:RasOk r) (p:Nat):(passesR r p).n≤2304:=by
 obtain⟨W,H,N,_,_,_,hW,hH,hN,_,e⟩:=ras_parts h
 rw[e]
 show pw W H p * ph W H p * N≤2304
 have h1:=Nat.mul_le_mul (Nat.le_trans (pw_le W H p) hW.2) (Nat.le_trans (ph_le W H p) hH.2)
 exact Nat.le_trans (Nat.mul_le_mul h1 hN.2) (by omega)
def joinR (W H:Int) (R:Nat→Ras):Ras:=⟨W,H,(R 0).x2,(R 0).x3,W.toNat * H.toNat * (chan (R 0).x2).toNat,joinF W.toNat H.toNat (chan (R 0).x2).toNat (fun p k=>(R p).f k)⟩
def FromR (W H:Int) (m:Nat) (R:Nat→Ras):Prop:=m=7∧RasOk (joinR W H R)∧∀ p,p < 7→(R p).same (passesR (joinR W H R) p)
theorem RasOk.same {r s:Ras} (h:RasOk r) (e:r.same s):RasOk s:=by
 obtain⟨e0,e1,e2,e3,e4,e5⟩:=e
 unfold RasOk RasR at h ⊢
 rw[← e0,← e1,← e2,← e3,← e4]
 refine⟨h.1,h.2.1,h.2.2.1,h.2.2.2.1,fun i hi=>?_⟩
 rw[← e5 i hi]
 exact h.2.2.2.2 i hi
theorem join_passes {r:Ras} (h:RasOk r) {R:Nat→Ras} (hR:∀ p,p < 7→(R p).same (passesR r p)):(joinR r.x0 r.x1 R).same r∧FromR r.x0 r.x1 7 R:=by
 obtain⟨W,H,N,e0,e1,e2,hW,hH,hN,hn,ep⟩:=ras_parts h
 have c2:(R 0).x2=r.x2:=(hR 0 (by omega)).2.2.1
 have c3:(R 0).x3=r.x3:=(hR 0 (by omega)).2.2.2.1
 have ej:joinR r.x0 r.x1 R=⟨r.x0,r.x1,r.x2,r.x3,W * H * N,joinF W H N (fun p k=>(R p).f k)⟩:=by
  unfold joinR
  rw[c2,c3,e0,e1,e2]
  rfl
 have hs:(joinR r.x0 r.x1 R).same r:=by
  rw[ej]
  refine⟨rfl,rfl,rfl,rfl,hn.symm,fun i hi=>?_⟩
  show joinF W H N (fun p k=>(R p).f k) i=r.f i
  refine pass_join hN.1 hW hH.2 r.f (fun p hp k hk=>?_) hi
  have q:=(hR p hp)
  rw[ep] at q
  exact q.2.2.2.2.2 k (by rw [q.2.2.2.2.1]; exact hk)
 refine⟨hs,rfl,h.same hs.symm,fun p hp=>?_⟩
 refine (hR p hp).trans ?_
 rw[ep]
 unfold passesR
 rw[ej]
 show (passR W H r.x2 r.x3 N r.f p).same (passR r.x0.toNat r.x1.toNat r.x2 r.x3 (chan r.x2).toNat (joinF W H N fun p k=>(R p).f k) p)
 rw[e0,e1,e2]
 refine⟨rfl,rfl,rfl,rfl,rfl,fun k hk=>?_⟩
 have hk':k < pw W H p * ph W H p * N:=hk
 show passF W H N r.f p k=passF W H N (joinF W H N fun p k=>(R p).f k) p k
 rw[join_pass hN.1 hW.2 hH.2 _ hp hk']
 have q:=hR p hp
 rw[ep] at q
 exact (q.2.2.2.2.2 k (by rw [q.2.2.2.2.1]; exact hk)).symm
end
section
open Go.RowKit RastMath PassMath
def PassSizeAnswer:Prop:=∀ (W H p:Int) (w:World),(Lit.int .i64 W).wf=true→(Lit.int .i64 H).wf=true→(Lit.int .i64 p).wf=true→GridG w→Calls Tryd.prog 13 #[.int .i64 W,.int .i64 H,.int .i64 p] w fun e w'=>e=.returned (.tuple #[.int .i64 (wideV W H p),.int .i64 (highV W H p)])∧Below w.heap.size w w'
def PassesAnswer:Prop:=∀ (r:Ras) (a:Option Addr) (cap:Nat) (w:World),Came w a r.n r.f→r.n≤1048576→r.n≤cap→cap≤maxLen→GridG w→
 (RasOk r→Calls Tryd.prog 11 #[rasA r a cap] w fun e w'=>∃ a' c',e=.returned (.tuple #[.slice a' 7 c',.bool true])∧RSL w' w.heap.size a' 7 (passesR r)∧Below w.heap.size w w')∧
 (¬ RasOk r→Calls Tryd.prog 11 #[rasA r a cap] w fun e w'=>∃ a' c',e=.returned (.tuple #[.slice a' 0 c',.bool false])∧Below w.heap.size w w')
def FromAnswer:Prop:=∀ (W H:Int) (a:Option Addr) (m c:Nat) (R:Nat→Ras) (w:World),RCame w a m R→m≤1048576→(∀ j,j < m→(R j).n≤1048576)→(Lit.int .i64 W).wf=true→(Lit.int .i64 H).wf=true→GridG w→
 (FromR W H m R→Calls Tryd.prog 12 #[.int .i64 W,.int .i64 H,.slice a m c] w fun e w'=>∃ a' c',e=.returned (.tuple #[rasA (joinR W H R) a' c',.bool true])∧SL w' w.heap.size a' (joinR W H R).n c' (joinR W H R).f∧(joinR W H R).n≤c'∧c'≤maxLen∧Below w.heap.size w w')∧
 (¬ FromR W H m R→Calls Tryd.prog 12 #[.int .i64 W,.int .i64 H,.slice a m c] w fun e w'=>∃ a' c',e=.returned (.tuple #[.agg #[.int .i64 0,.int .i64 0,.int .i64 0,.int .i64 0,.slice a' 0 c'],.bool false])∧Below w.heap.size w w')
end
section
open Go.RowKit Go.Joins
def Cur (w:World) (base b:Nat):Prop:=
 ∃ a len cap i h,w.heap[b]?=some (.cells #[.slice a len cap,.int .i64 i,.int .i64 h] 94 (0,0))∧base≤b∧0≤i∧i≤len∧len≤1048576∧CodeAt w base a len
theorem Cur.lt {w:World} {base b:Nat} (h:Cur w base b):b < w.heap.size:=by
 obtain⟨a,len,cap,i,h,hb,_⟩:=h
 rcases Nat.lt_or_ge b w.heap.size with k | k
 ·exact k
 ·rw[Array.getElem?_eq_none k] at hb; cases hb
theorem Cur.base_le {w:World} {base b:Nat} (h:Cur w base b):base≤b:=by
 obtain⟨a,len,cap,i,h,_,hb,_⟩:=h
 exact hb
theorem Cur.keep {w w':World} {base b:Nat} (h:Cur w base b) (hk:w'.heap[b]?=w.heap[b]?) (hb:Below base w w'):Cur w' base b:=by
 obtain⟨a,len,cap,i,h,h1,h2,h3,h4,h5,h6⟩:=h
 exact⟨a,len,cap,i,h,hk.trans h1,h2,h3,h4,h5,h6.below hb⟩
theorem Cur.alloc {w:World} {base b:Nat} (h:Cur w base b) (o:Obj):Cur (w.alloc o) base b:=
 h.keep (Below.heap_alloc w o b h.lt) ((Below.refl _ _).alloc (by have:=h.lt; have:=h.base_le; omega) o)
theorem Cur.setCell {w:World} {base b:Nat} (h:Cur w base b) (p:Addr) (v:Value) (hne:p.block≠b) (hp:base≤p.block):Cur (w.setCell p v) base b:=
 h.keep (Below.heap_setCell w p v b (Ne.symm hne)) ((Below.refl _ _).setCell hp v)
theorem Cur.grown {w w':World} {base b:Nat} {row:Option Nat} (h:Cur w base b) (hg:w.grownBy w' row) (hne:row≠some b) (hr:∀ k,row=some k→base≤k):Cur w' base b:=
 h.keep (hg.block b h.lt (Ne.symm hne)) ((Below.refl _ _).grown hg (by have:=h.lt; have:=h.base_le; omega) hr)
theorem grown_refl (w:World) (row:Option Nat):w.grownBy w row:=⟨rfl,rfl,rfl,Nat.le_refl _,fun _ _ _=>rfl⟩
theorem grown_trans {a b c:World} {row:Option Nat} (h:a.grownBy b row) (k:b.grownBy c row):a.grownBy c row:=
 ⟨k.os.trans h.os,k.tape.trans h.tape,k.output.trans h.output,Nat.le_trans h.size k.size,fun i hi hne=>(k.block i (Nat.lt_of_lt_of_le hi h.size) hne).trans (h.block i hi hne)⟩
theorem grown_drewN {a b:World} {row:Option Nat} (h:a.grownBy b row) (n:Nat):a.grownBy (b.drewN n) row:=⟨h.os,h.tape,h.output,h.size,h.block⟩
theorem grown_set {a b:World} {g:Nat} (h:a.grownBy b (some g)) (i:Nat) (v:Value):a.grownBy (b.setCell ⟨g,i,none⟩ v) (some g):=
 ⟨h.os,h.tape,h.output,by simpa using h.size,fun k hk hne=>(Below.heap_setCell b _ v k (by simpa using hne)).trans (h.block k hk hne)⟩
theorem below_of_grown {w w':World} {base b:Nat} (h:w.grownBy w' (some b)) (h1:base≤b) (h2:b < w.heap.size):Below base w w':=
 (Below.refl _ _).grown h (by omega) (fun k hk=>by cases hk; exact h1)
theorem Cur.drew {w:World} {base b:Nat} (h:Cur w base b):Cur w.drew base b:=h.keep rfl ⟨rfl,rfl,rfl,Nat.le_refl _,fun _ _=>rfl⟩
theorem and255 (x:Int):0≤bits .and .i64 x 255∧bits .and .i64 x 255≤255:=by
 have h2:(BitVec.ofInt 64 (255:Int)).toNat=255:=by decide
 have e:bits .and .i64 x 255=IntKind.i64.wrap ((BitVec.ofInt 64 x &&& BitVec.ofInt 64 (255:Int)).toNat:Int):=rfl
 rw[e,BitVec.toNat_and,h2,IntKind.wrap_i64]
 have:(BitVec.ofInt 64 x).toNat &&& 255≤255:=Nat.and_le_right
 omega
section
variable {w:World} {base b:Nat} {a:Option Addr} {len cap:Nat} {i h:Int}
theorem cur_next {n:Nat} (hb:w.heap[b]?=some (.cells #[.slice a len cap,.int .i64 n,.int .i64 h] 94 (0,0))) (hk:CodeAt w base a len) (hbase:base≤b) (hn:n+1≤len) (hlen:len≤1048576) (z:Int) (q:Nat):
  Cur (((w.setCell ⟨b,2,none⟩ (.int .i64 z)).drewN q).setCell ⟨b,1,none⟩ (.int .i64 ((n:Int)+1))) base b:=by
 have h1:=block_setCell (i:=2) hb (.int .i64 z)
 have h2:=block_setCell (w:=(w.setCell ⟨b,2,none⟩ (.int .i64 z)).drewN q) (i:=1) h1 (.int .i64 ((n:Int)+1))
 refine⟨a,len,cap,(n:Int)+1,z,?_,hbase,by omega,by omega,hlen,?_⟩
 ·simp at h2
  exact h2
 ·exact hk.below ((((Below.refl base w).setCell (p:=⟨b,2,none⟩) hbase _).trans (below_draws _ _ _)).setCell hbase _)
theorem cur_stay (hb:w.heap[b]?=some (.cells #[.slice a len cap,.int .i64 i,.int .i64 h] 94 (0,0))) (hk:CodeAt w base a len) (hbase:base≤b) (h0:0≤i) (hi:i≤len) (hlen:len≤1048576) (z:Int) (q q':Nat):
  Cur (((w.setCell ⟨b,2,none⟩ (.int .i64 z)).drewN q).drewN q') base b:=by
 have h1:=block_setCell (i:=2) hb (.int .i64 z)
 refine⟨a,len,cap,i,z,?_,hbase,h0,hi,hlen,?_⟩
 ·simp at h1
  exact h1
 ·exact hk.below (((Below.refl base w).setCell (p:=⟨b,2,none⟩) hbase _).trans ((below_draws _ _ _).trans (below_draws _ _ _)))
end
set_option maxHeartbeats 800000 in
theorem draw_byte (base b:Nat) (w:World) (hC:Cur w base b):
  Calls Tryd.prog 98 #[.pointer (some ⟨b,0,none⟩)] w fun e w'=>∃ x:Int,e=.returned (.int .i64 x)∧0≤x∧x≤255∧Cur w' base b∧w.grownBy w' (some b):=by
 obtain⟨a,len,cap,i,h,hb,hbase,hi0,hil,hlen,hcode⟩:=id hC
 have c0:w.cell? ⟨b,0,none⟩=some (.slice a len cap):=cell_of_block hb 0
 have c1:w.cell? ⟨b,1,none⟩=some (.int .i64 i):=cell_of_block hb 1
 have c2:w.cell? ⟨b,2,none⟩=some (.int .i64 h):=cell_of_block hb 2
 have cf:∀ j,w.frozen? ⟨b,j,none⟩=false:=unfrozen_of_block hb
 have HC:Hid (Cur w base b):=hC
 have HB:Hid (w.heap[b]?=some (.cells #[.slice a len cap,.int .i64 i,.int .i64 h] 94 (0,0))):=hb
 have HK:Hid (CodeAt w base a len):=hcode
 clear hC hb hcode
 by_cases hlt:i < (len:Int)
 ·obtain⟨n,rfl⟩:=Int.eq_ofNat_of_zero_le hi0
  rcases HK.out with h0 | ⟨bc,off,rfl,hbc,hcs⟩
  ·omega
  ·obtain⟨y,hy,hy0,hy1⟩:=hcs n (by omega)
   have hne:¬ bc=b:=by omega
   have d:decide ((n:Int) < (len:Int))=true:=by simpa using hlt
   clear hcs
   go_enter Tryd.func98,Tryd.ntmps98
   go_wp2
   go_quiet (fail)
   go_wp2
   go_quiet (fail)
   go_wp2
   go_quiet (fail)
   go_wp2
   go_ret
   refine⟨_,rfl,(and255 _).1,(and255 _).2,cur_next HB.out HK.out hbase (by omega) hlen _ _,?_⟩
   exact grown_set (grown_drewN (grown_set (grown_refl _ _) _ _) _) _ _
 ·have d:decide (i < (len:Int))=false:=by simpa using hlt
  go_enter Tryd.func98,Tryd.ntmps98
  go_wp2
  go_quiet (fail)
  go_wp2
  go_quiet (fail)
  go_wp2
  go_ret
  refine⟨_,rfl,(and255 _).1,(and255 _).2,cur_stay HB.out HK.out hbase hi0 hil hlen _ _ _,?_⟩
  exact grown_drewN (grown_drewN (grown_set (grown_refl _ _) _ _) _) _
def InBelow (x n:Int):Prop:=0≤x∧(0 < n→x < n)∧(n≤0→x=0)
theorem rem_bd (x n:Int) (hn:0 < n):InBelow (x % n) n:=by
 exact⟨Int.emod_nonneg _ (by omega),fun _=>Int.emod_lt_of_pos _ hn,fun h=>by omega⟩
set_option maxHeartbeats 800000 in
theorem draw_below (base b:Nat) (n:Int) (w:World) (hC:Cur w base b):
  Calls Tryd.prog 72 #[.pointer (some ⟨b,0,none⟩),.int .i64 n] w fun e w'=>∃ x:Int,e=.returned (.int .i64 x)∧InBelow x n∧Cur w' base b∧w.grownBy w' (some b):=by
 have HC:Hid (Cur w base b):=hC
 clear hC
 by_cases h0:n≤0
 ·go_enter Tryd.func72,Tryd.ntmps72
  go_wp2_with fail
  go_ret
  exact⟨0,rfl,⟨Int.le_refl _,fun h=>by omega,fun _=>rfl⟩,HC.out,grown_refl _ _⟩
 ·by_cases h1:n≤256
  ·have hn:¬ n=0:=by omega
   go_enter Tryd.func72,Tryd.ntmps72
   go_wp2_with fail
   refine (draw_byte base b _ HC.out).mono ?_
   rintro e w1 ⟨x,rfl,hx0,hx1,hC1,hg1⟩
   have HC1:Hid (Cur w1 base b):=hC1
   clear hC1
   go_wp2_with fail
   go_ret
   exact⟨_,rfl,rem_bd _ n (by omega),HC1.out,hg1⟩
  ·have hn:¬ n=0:=by omega
   go_enter Tryd.func72,Tryd.ntmps72
   go_wp2_with fail
   refine (draw_byte base b _ HC.out).mono ?_
   rintro e w1 ⟨x1,rfl,hx0,hx1,hC1,hg1⟩
   have HC1:Hid (Cur w1 base b):=hC1
   clear hC1
   go_wp2_with fail
   refine (draw_byte base b _ HC1.out).mono ?_
   rintro e w2 ⟨x2,rfl,hy0,hy1,hC2,hg2⟩
   have HC2:Hid (Cur w2 base b):=hC2
   clear hC2
   go_wp2_with fail
   refine (draw_byte base b _ HC2.out).mono ?_
   rintro e w3 ⟨x3,rfl,hz0,hz1,hC3,hg3⟩
   have HC3:Hid (Cur w3 base b):=hC3
   clear hC3
   go_wp2_with fail
   refine (draw_byte base b _ HC3.out).mono ?_
   rintro e w4 ⟨x4,rfl,hu0,hu1,hC4,hg4⟩
   have HC4:Hid (Cur w4 base b):=hC4
   clear hC4
   go_wp2_with fail
   go_ret
   exact⟨_,rfl,rem_bd _ n (by omega),HC4.out,grown_trans (grown_trans (grown_trans hg1 hg2) hg3) hg4⟩
set_option maxHeartbeats 800000 in
theorem draw_new (a:Option Addr) (len cap:Nat) (base:Nat) (w:World) (hK:CodeAt w base a len) (hlen:len≤1048576) (hbase:base≤w.heap.size):
  Calls Tryd.prog 33 #[.slice a len cap] w fun e w'=>e=.returned (.pointer (some ⟨w.heap.size,0,none⟩))∧Cur w' base w.heap.size∧(∃ o,w'=w.alloc o):=by
 have HK:Hid (CodeAt w base a len):=hK
 clear hK
 go_enter Tryd.func33,Tryd.ntmps33
 go_wp2_with fail
 go_loop [3,4] (fun h i=>∃ (z:Int) (j:Nat),j≤len∧i=.int .i64 j∧h=.int .i64 z) (fun _ i=>len - (intOf i).toNat)
 case atStart=>exact⟨_,0,Nat.zero_le _,rfl,rfl⟩
 case round=>
  obtain⟨z,j,hj,rfl,rfl⟩:=hrel
  by_cases hlt:j < len
  ·rcases HK.out with h0 | ⟨bc,off,rfl,hbc,hcs⟩
   ·omega
   ·obtain⟨y,hy,hy0,hy1⟩:=hcs j hlt
    have d1:decide ((j:Int) < (len:Int))=true:=by simp; omega
    clear hcs
    by_cases h4:(j:Int) < 4000
    ·go_wp2_with fail
     go_round
     case rel=>exact⟨_,j+1,by omega,by go_num,rfl⟩
     case measure=>simp [intOf]; omega
    ·go_wp2_with fail
     go_ret
     exact⟨rfl,⟨_,len,cap,0,_,heap_alloc_new w _,hbase,by omega,by omega,hlen,HK.out.below ((Below.refl _ _).alloc hbase _)⟩,_,rfl⟩
  ·have d1:decide ((j:Int) < (len:Int))=false:=by simp; omega
   go_wp2_with fail
   go_ret
   exact⟨rfl,⟨_,len,cap,0,_,heap_alloc_new w _,hbase,by omega,by omega,hlen,HK.out.below ((Below.refl _ _).alloc hbase _)⟩,_,rfl⟩
theorem big_no (a:Option Addr) (len cap:Nat) (w:World) (h:(len:Int)≤1048576):
  Calls Tryd.prog 9 #[.slice a len cap] w fun e w'=>e=.returned (.bool false)∧w'=w:=by
 have d:decide ((1048576:Int) < (len:Int))=false:=by simp; omega
 go_enter Tryd.func9,Tryd.ntmps9
 go_wp2
 go_ret
 exact⟨rfl,rfl⟩
theorem big_yes (a:Option Addr) (len cap:Nat) (w:World) (h:(1048576:Int) < len) (_h63:(len:Int)≤9223372036854775807):
  Calls Tryd.prog 9 #[.slice a len cap] w fun e w'=>e=.returned (.bool true)∧w'=w:=by
 have d:decide ((1048576:Int) < (len:Int))=true:=by simpa using h
 go_enter Tryd.func9,Tryd.ntmps9
 go_wp2
 go_ret
 exact⟨rfl,rfl⟩
end
section
open Go.RowKit
theorem ret_i {k:IntKind} {a b:Int} (h:a=b):Ending.returned (.int k a)=.returned (.int k b):=by rw [h]
end
end Go.Proofs.YtcbbcadfolgioaaDoor
