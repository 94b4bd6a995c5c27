/-
  Texts of the proof, put together.
-/
import Derived.Test.YtkpbfmdnjnohlaaMk10
import Derived.Test.YtkpbfmdnjnohlaaMk16
namespace Go.Proofs.Ytkpbfmdnjnohlaa
section
open Go.RowKit Go.Joins OutMath PutMath RastMath HeadMath ChunkMath
def MeanAt (w:World) (base B:Nat) (m:Mea) (q:MeaA):Prop:=(m.pn=0∨∃ g,q.pa=some ⟨g,0,none⟩∧g < B∧IOwn w base g m.pn q.pc m.P)∧(m.kn=0∨∃ g,q.ka=some ⟨g,0,none⟩∧g < B∧KOwn w base g m.kn m.K)
theorem MeanSL.at_ {w:World} {base:Nat} {m:Mea} {q:MeaA} (h:MeanSL w base m q):MeanAt w base w.heap.size m q:=by
 refine⟨?_,?_⟩
 ·rcases h.p with h | ⟨g,e,ho⟩
  ·exact .inl h
  ·exact .inr ⟨g,e,ho.lt,ho⟩
 ·rcases h.k with h | ⟨g,e,ho⟩
  ·exact .inl h
  ·exact .inr ⟨g,e,ho.lt,ho⟩
theorem MeanAt.stay {w w':World} {base B:Nat} {m:Mea} {q:MeaA} (h:MeanAt w base B m q) (hk:∀ g,base≤g→g < B→w'.heap[g]?=w.heap[g]?):MeanAt w' base B m q:=by
 refine⟨?_,?_⟩
 ·rcases h.1 with h | ⟨g,e,hl,ho⟩
  ·exact .inl h
  ·exact .inr ⟨g,e,hl,ho.keep (hk g ho.base_le hl)⟩
 ·rcases h.2 with h | ⟨g,e,hl,ho⟩
  ·exact .inl h
  ·exact .inr ⟨g,e,hl,ho.keep (hk g ho.1 hl)⟩
theorem MeanAt.sl {w:World} {base B:Nat} {m:Mea} {q:MeaA} (h:MeanAt w base B m q):MeanSL w base m q:=by
 refine⟨?_,?_⟩
 ·rcases h.1 with h | ⟨g,e,_,ho⟩
  ·exact .inl h
  ·exact .inr ⟨g,e,ho⟩
 ·rcases h.2 with h | ⟨g,e,_,ho⟩
  ·exact .inl h
  ·exact .inr ⟨g,e,ho⟩
theorem MeanAt.marked {u u':World} {b7 B7 k:Nat} {m:Mea} {q:MeaA} (h:MeanAt u b7 B7 m q) (hS:MeanSL u' b7 (mrk k m) q):MeanAt u' b7 B7 (mrk k m) q:=by
 refine⟨?_,?_⟩
 ·rcases hS.p with h0 | ⟨g,e,ho⟩
  ·exact .inl h0
  ·rcases h.1 with h1 | ⟨g1,e1,l1,_⟩
   ·exact .inl h1
   ·rw[e1] at e; cases e; exact .inr ⟨_,e1,l1,ho⟩
 ·rcases hS.k with h0 | ⟨g,e,ho⟩
  ·exact .inl h0
  ·rcases h.2 with h1 | ⟨g1,e1,l1,_⟩
   ·exact .inl h1
   ·rw[e1] at e; cases e; exact .inr ⟨_,e1,l1,ho⟩
structure MLaw (w u:World) (A0 A2 C4 C7:Array Value) (Y4 Y6 Y7 b0 B0 b7 B7:Nat) (m m':Mea) (qa qb:MeaA):Prop where
 l:LBox w u A0
 y4:MBx u Y4 C4
 y6:BoxAt u Y6 A2
 y7:MBx u Y7 C7
 a:MeanAt u b0 B0 m qa
 b:MeanAt u b7 B7 m' qb
 o1:w.heap.size < Y4∧w.heap.size < b0∧B0≤Y4∧Y4 < Y6∧Y6 < b7∧B7≤Y7∧Y6 < Y7
theorem MLaw.called {w u u':World} {A0 A2 C4 C7:Array Value} {Y4 Y6 Y7 b0 B0 b7 B7:Nat} {m m':Mea} {qa qb:MeaA} (h:MLaw w u A0 A2 C4 C7 Y4 Y6 Y7 b0 B0 b7 B7 m m' qa qb) (hb:Below u.heap.size u u'):MLaw w u' A0 A2 C4 C7 Y4 Y6 Y7 b0 B0 b7 B7 m m' qa qb:=by
 have h7:=block_lt h.y7
 have h4:=block_lt h.y4
 have ho:=h.o1
 exact⟨h.l.called hb,h.y4.called hb,h.y6.called hb,h.y7.called hb,h.a.stay fun g _ h2=>hb.block g (by omega),h.b.stay fun g _ h2=>hb.block g (by omega),h.o1⟩
theorem MLaw.wrote {w u u':World} {A0 A2 C4 C7:Array Value} {Y4 Y6 Y7 b0 B0 b7 B7 gt gc gs gk:Nat} {m m':Mea} {qa qb:MeaA} (h:MLaw w u A0 A2 C4 C7 Y4 Y6 Y7 b0 B0 b7 B7 m m' qa qb) (hW:Wrote gt gc gs gk u u') (hr:Y4 < gt∧gt < gc∧gc < gs∧gs < gk∧gk < Y6):MLaw w u' A0 A2 C4 C7 Y4 Y6 Y7 b0 B0 b7 B7 m m' qa qb:=by
 obtain⟨h1,h2,h3⟩:=hW
 have h7:=block_lt h.y7
 have h6:=block_lt h.y6
 have h4:=block_lt h.y4
 have h0:=block_lt h.l.1
 have ho:=h.o1
 refine⟨⟨(h3 _ h0 (by omega) (by omega) (by omega) (by omega)).trans h.l.1,h2 _ _ h.l.2 (by omega) (by omega) (by omega) (by omega) (by omega)⟩,(h3 _ h4 (by omega) (by omega) (by omega) (by omega)).trans h.y4,(h3 _ h6 (by omega) (by omega) (by omega) (by omega)).trans h.y6,(h3 _ h7 ?_ ?_ ?_ ?_).trans h.y7,h.a.stay fun g _ hg=>h3 g (by omega) (by omega) (by omega) (by omega) (by omega),h.b.stay fun g hb hg=>h3 g (by omega) (by omega) (by omega) (by omega) (by omega),h.o1⟩
 all_goals intro e
 all_goals
  have h8:=h.y6
  have h9:=h.y7
  omega
structure MAll (w u:World) (A0 A2 C4 C7:Array Value) (Y4 Y6 Y7 b0 B0 b7 B7:Nat) (m m':Mea) (qa qb:MeaA) (P:Pic) (q:PicA) (bc gt gc gs gk:Nat):Prop where
 m:MLaw w u A0 A2 C4 C7 Y4 Y6 Y7 b0 B0 b7 B7 m m' qa qb
 p:PngIn u P q
 o:PngOwn u bc P gt gc gs gk
theorem MAll.called {w u u':World} {A0 A2 C4 C7:Array Value} {Y4 Y6 Y7 b0 B0 b7 B7:Nat} {m m':Mea} {qa qb:MeaA} {P:Pic} {q:PicA} {bc gt gc gs gk:Nat} (h:MAll w u A0 A2 C4 C7 Y4 Y6 Y7 b0 B0 b7 B7 m m' qa qb P q bc gt gc gs gk) (hb:Below u.heap.size u u'):MAll w u' A0 A2 C4 C7 Y4 Y6 Y7 b0 B0 b7 B7 m m' qa qb P q bc gt gc gs gk:=⟨h.m.called hb,h.p.called hb,h.o.called hb⟩
theorem MLaw.marked {w u u':World} {A0 A2 C4 C7:Array Value} {Y4 Y6 Y7 b0 B0 b7 B7 k:Nat} {m m':Mea} {qa qb:MeaA} (h:MLaw w u A0 A2 C4 C7 Y4 Y6 Y7 b0 B0 b7 B7 m m' qa qb) (hS:MeanSL u' b7 (mrk k m') qb) (hB:∀ (B:Nat) (w0:World),Below B w0 u→B≤u.heap.size→B≤b7→Below B w0 u') (hM:∀ (g:Nat) (cs:Array Value),u.heap[g]?=some (.cells cs 34 (0,0))→u'.heap[g]?=u.heap[g]?):MLaw w u' A0 A2 C4 C7 Y4 Y6 Y7 b0 B0 b7 B7 m (mrk k m') qa qb:=by
 have ho:=h.o1
 have h6:=block_lt h.y6
 have h7:=block_lt h.y7
 have hbb:Below (Y6+1) u u':=hB (Y6+1) u (Below.refl _ _) (by omega) (by omega)
 have hl:=h.l
 exact⟨⟨(hbb.block _ (by omega)).trans h.l.1,hB _ _ h.l.2 (by omega) (by omega)⟩,(hbb.block _ (by omega)).trans h.y4,(hbb.block _ (by omega)).trans h.y6,(hM _ _ h.y7).trans h.y7,h.a.stay fun g h1 h2=>hbb.block g (by omega),h.b.marked hS,h.o1⟩
end
section
open Go.RowKit OutMath PutMath RastMath HeadMath ChunkMath
def mulD (d:Nat):Int:=65535 / (p2 d - 1)
def chanN (c:Int):Nat:=(chan c).toNat
def smq (p:Pic) (at' k:Nat):Int:=p.S (at' * chanN p.hc+k)
def coverT (p:Pic) (v:Int):Int:=if v < (p.cn:Int) then p.C v.toNat else 255
def clearAt (p:Pic) (at':Nat):Prop:=chanN p.hc=p.cn∧∀ i,i < chanN p.hc→smq p at' i=p.C i
def clearB (p:Pic) (at':Nat):Bool:=decide (chanN p.hc=p.cn) && (List.range (chanN p.hc)).all fun i=>decide (smq p at' i=p.C i)
theorem clearB_iff (p:Pic) (at':Nat):clearB p at'=true↔clearAt p at':=by
 unfold clearB clearAt
 simp
def pixV (p:Pic) (at':Nat) (k:Nat):Int:=
 if p.hc=3 then 257 * (if k=0 then (p.T (smq p at' 0).toNat).1 else if k=1 then (p.T (smq p at' 0).toNat).2.1 else if k=2 then (p.T (smq p at' 0).toNat).2.2 else coverT p (smq p at' 0))
 else if p.hc=4 then (if k < 3 then smq p at' 0 else smq p at' 1) * mulD p.hd.toNat
 else if p.hc=6 then smq p at' k * mulD p.hd.toNat
 else if k < 3 then (if p.hc=2 then smq p at' k else smq p at' 0) * mulD p.hd.toNat
 else if clearB p at' then 0 else 65535
def pixL (p:Pic) (i:Nat):Int:=pixV p (i / 4) (i % 4)
def pixN (p:Pic):Nat:=(p.hw * p.hh).toNat
theorem mulD_five {d:Nat} (h:Five (d:Int)):1≤mulD d∧mulD d≤65535∧(p2 d - 1) * mulD d=65535∧1≤p2 d - 1:=by
 have:d=1∨d=2∨d=4∨d=8∨d=16:=by unfold Five at h; omega
 rcases this with rfl | rfl | rfl | rfl | rfl <;> decide +kernel
theorem mulD_way {d:Nat} (h:Five (d:Int)) (x:Int):x * 65535 / (p2 d - 1)=x * mulD d:=by
 obtain⟨_,_,h3,h4⟩:=mulD_five h
 rw[← h3,show x * ((p2 d - 1) * mulD d)=(x * mulD d) * (p2 d - 1) by rw [Int.mul_comm (p2 d - 1),Int.mul_assoc]]
 exact Int.mul_ediv_cancel _ (by omega)
end
section
open Go.RowKit Go.Joins ChunkMath
def meaOf (p:Pic):Mea:=⟨p.hw,p.hh,4 * pixN p,pixL p,p.kn,p.K⟩
def MeaningPost (p:Pic) (w:World) (e:Ending) (w':World):Prop:=(¬ PngR p∧e=.returned (.tuple #[.agg #[.int .i64 0,.int .i64 0,.slice none 0 0,.slice none 0 0],.bool false])∧Below w.heap.size w w')∨(PngR p∧∃ q,e=.returned (.tuple #[meanV (meaOf p) q,.bool true])∧MeanSL w' w.heap.size (meaOf p) q∧Below w.heap.size w w')
theorem meaning_one (p:Pic) (hZ:PngSz p):∃ (m:Mea) (b:Bool),MeanSz m∧∀ w e w',MeaningPost p w e w'→∃ q,e=.returned (.tuple #[meanV m q,.bool b])∧MeanSL w' w.heap.size m q∧Below w.heap.size w w':=by
 by_cases h:PngR p
 ·refine⟨meaOf p,true,⟨?_,hZ.k,hZ.m⟩,fun w e w' k=>?_⟩
  ·obtain⟨⟨⟨⟨a1,a2⟩,⟨b1,b2⟩,_⟩,_⟩,_⟩:=h
   have h2:p.hw * p.hh≤24 * 24:=Int.mul_le_mul a2 b2 (by omega) (by omega)
   show 4 * pixN p≤1048576
   unfold pixN
   omega
  ·rcases k with ⟨h',_⟩ | ⟨_,q,k1,k2,k3⟩
   ·exact absurd h h'
   ·exact⟨q,k1,k2,k3⟩
 ·refine⟨⟨0,0,0,fun _=>0,0,fun _=>(ByteArray.empty,ByteArray.empty)⟩,false,⟨Nat.zero_le _,Nat.zero_le _,fun i hi=>absurd hi (Nat.not_lt_zero i)⟩,fun w e w' k=>?_⟩
  rcases k with ⟨_,k1,k2⟩ | ⟨h',_⟩
  ·exact⟨⟨none,0,none,0⟩,k1,⟨.inl rfl,.inl rfl⟩,k2⟩
  ·exact absurd h' h
theorem MeanSL.stay {w w':World} {base:Nat} {m:Mea} {q:MeaA} (h:MeanSL w base m q) (hk:∀ g,base≤g→(∃ cs t fz,w.heap[g]?=some (.cells cs t fz))→(m.pn=0∨q.pa=some ⟨g,0,none⟩∨q.ka=some ⟨g,0,none⟩∨m.kn=0)→(q.pa=some ⟨g,0,none⟩∨q.ka=some ⟨g,0,none⟩)→w'.heap[g]?=w.heap[g]?):MeanSL w' base m q:=by
 refine⟨?_,?_⟩
 ·rcases h.p with h | ⟨g,e,ho⟩
  ·exact .inl h
  ·obtain⟨cap,cur,fz,_,hb,hh,_⟩:=id ho
   exact .inr ⟨g,e,ho.keep (hk g hb ⟨_,_,_,hh⟩ (.inr (.inl e)) (.inl e))⟩
 ·rcases h.k with h | ⟨g,e,ho⟩
  ·exact .inl h
  ·obtain⟨hb,cur,hh,_⟩:=id ho
   exact .inr ⟨g,e,ho.keep (hk g hb ⟨_,_,_,hh⟩ (.inr (.inr (.inl e))) (.inr e))⟩
end
end Go.Proofs.Ytkpbfmdnjnohlaa
