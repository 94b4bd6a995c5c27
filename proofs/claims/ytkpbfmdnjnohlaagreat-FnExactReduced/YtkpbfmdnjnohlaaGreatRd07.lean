/-
  Texts of the proof, put together.
-/
import Derived.Test.YtkpbfmdnjnohlaaGreatRd06
import Derived.Test.YtkpbfmdnjnohlaaGreatRd03
namespace Go.Proofs.YtkpbfmdnjnohlaaGreat
open Go.RowKit Go.Joins OutMath PutMath RastMath HeadMath ChunkMath
structure PngAt (w:World) (base B:Nat) (m:Pic) (q:PicA):Prop where
 t:m.tn=0∨∃ g,q.ta=some ⟨g,0,none⟩∧g < B∧RgbOwn w base g m.tn m.T
 c:m.cn=0∨∃ g,q.ca=some ⟨g,0,none⟩∧g < B∧IOwn w base g m.cn q.cc m.C
 s:m.sn=0∨∃ g,q.sa=some ⟨g,0,none⟩∧g < B∧IOwn w base g m.sn q.sc m.S
 k:m.kn=0∨∃ g,q.ka=some ⟨g,0,none⟩∧g < B∧KOwn w base g m.kn m.K
 ne:m.cn=0∨m.sn=0∨q.ca≠q.sa
 capped:m.sn≤q.sc∧q.sc≤maxLen
theorem PngSL.at_ {w:World} {base:Nat} {m:Pic} {q:PicA} (h:PngSL w base m q):PngAt w base w.heap.size m q:=by
 refine⟨?_,?_,?_,?_,h.ne,h.capped⟩
 ·rcases h.t with h | ⟨g,e,ho⟩
  ·exact .inl h
  ·exact .inr ⟨g,e,ho.lt,ho⟩
 ·rcases h.c with h | ⟨g,e,ho⟩
  ·exact .inl h
  ·exact .inr ⟨g,e,ho.lt,ho⟩
 ·rcases h.s with h | ⟨g,e,ho⟩
  ·exact .inl h
  ·exact .inr ⟨g,e,ho.lt,ho⟩
 ·rcases h.k with h | ⟨g,e,ho⟩
  ·exact .inl h
  ·exact .inr ⟨g,e,ho.lt,ho⟩
theorem PngAt.stay {w w':World} {base B:Nat} {m:Pic} {q:PicA} (h:PngAt w base B m q) (hk:∀ g,base≤g→g < B→w'.heap[g]?=w.heap[g]?):PngAt w' base B m q:=by
 refine⟨?_,?_,?_,?_,h.ne,h.capped⟩
 ·rcases h.t with h | ⟨g,e,hl,ho⟩
  ·exact .inl h
  ·exact .inr ⟨g,e,hl,ho.keep (hk g ho.1 hl)⟩
 ·rcases h.c with h | ⟨g,e,hl,ho⟩
  ·exact .inl h
  ·exact .inr ⟨g,e,hl,ho.keep (hk g ho.base_le hl)⟩
 ·rcases h.s with h | ⟨g,e,hl,ho⟩
  ·exact .inl h
  ·exact .inr ⟨g,e,hl,ho.keep (hk g ho.base_le hl)⟩
 ·rcases h.k with h | ⟨g,e,hl,ho⟩
  ·exact .inl h
  ·exact .inr ⟨g,e,hl,ho.keep (hk g ho.1 hl)⟩
theorem PngAt.sl {w:World} {base B:Nat} {m:Pic} {q:PicA} (h:PngAt w base B m q):PngSL w base m q:=by
 refine⟨?_,?_,?_,?_,h.ne,h.capped⟩
 ·rcases h.t with h | ⟨g,e,_,ho⟩
  ·exact .inl h
  ·exact .inr ⟨g,e,ho⟩
 ·rcases h.c with h | ⟨g,e,_,ho⟩
  ·exact .inl h
  ·exact .inr ⟨g,e,ho⟩
 ·rcases h.s with h | ⟨g,e,_,ho⟩
  ·exact .inl h
  ·exact .inr ⟨g,e,ho⟩
 ·rcases h.k with h | ⟨g,e,_,ho⟩
  ·exact .inl h
  ·exact .inr ⟨g,e,ho⟩
theorem PngAt.marked {u u':World} {b7 B7 k:Nat} {m:Pic} {q:PicA} (h:PngAt u b7 B7 m q) (hS:PngSL u' b7 (mrkP k m) q):PngAt u' b7 B7 (mrkP k m) q:=by
 refine⟨?_,?_,?_,?_,hS.ne,hS.capped⟩
 ·rcases hS.t with h0 | ⟨g,e,ho⟩
  ·exact .inl h0
  ·rcases h.t with h1 | ⟨g1,e1,l1,_⟩
   ·exact .inl h1
   ·rw[e1] at e; cases e; exact .inr ⟨_,e1,l1,ho⟩
 ·rcases hS.c with h0 | ⟨g,e,ho⟩
  ·exact .inl h0
  ·rcases h.c with h1 | ⟨g1,e1,l1,_⟩
   ·exact .inl h1
   ·rw[e1] at e; cases e; exact .inr ⟨_,e1,l1,ho⟩
 ·rcases hS.s with h0 | ⟨g,e,ho⟩
  ·exact .inl h0
  ·rcases h.s with h1 | ⟨g1,e1,l1,_⟩
   ·exact .inl h1
   ·rw[e1] at e; cases e; exact .inr ⟨_,e1,l1,ho⟩
 ·rcases hS.k with h0 | ⟨g,e,ho⟩
  ·exact .inl h0
  ·rcases h.k with h1 | ⟨g1,e1,l1,_⟩
   ·exact .inl h1
   ·rw[e1] at e; cases e; exact .inr ⟨_,e1,l1,ho⟩
structure PLaw (w u:World) (A0 A2 C4 C7:Array Value) (Y4 Y6 Y7 b0 B0 b7 B7:Nat) (m m':Pic) (qa qb:PicA):Prop where
 l:LBox w u A0
 y4:BoxAt u Y4 C4
 y6:BoxAt u Y6 A2
 y7:BoxAt u Y7 C7
 a:PngAt u b0 B0 m qa
 b:PngAt u b7 B7 m' qb
 o1:w.heap.size < Y4∧w.heap.size < b0∧B0≤Y4∧Y4 < Y6∧Y6 < b7∧B7≤Y7∧Y6 < Y7
theorem PLaw.called {w u u':World} {A0 A2 C4 C7:Array Value} {Y4 Y6 Y7 b0 B0 b7 B7:Nat} {m m':Pic} {qa qb:PicA} (h:PLaw w u A0 A2 C4 C7 Y4 Y6 Y7 b0 B0 b7 B7 m m' qa qb) (hb:Below u.heap.size u u'):PLaw w u' A0 A2 C4 C7 Y4 Y6 Y7 b0 B0 b7 B7 m m' qa qb:=by
 have h7:=block_lt h.y7
 have h4:=block_lt h.y4
 have ho:=h.o1
 exact⟨h.l.called hb,h.y4.called hb,h.y6.called hb,h.y7.called hb,h.a.stay fun g _ h2=>hb.block g (by omega),h.b.stay fun g _ h2=>hb.block g (by omega),h.o1⟩
theorem PLaw.wrote {w u u':World} {A0 A2 C4 C7:Array Value} {Y4 Y6 Y7 b0 B0 b7 B7 gt gc gs gk:Nat} {m m':Pic} {qa qb:PicA} (h:PLaw w u A0 A2 C4 C7 Y4 Y6 Y7 b0 B0 b7 B7 m m' qa qb) (hW:Wrote gt gc gs gk u u') (hr:Y4 < gt∧gt < gc∧gc < gs∧gs < gk∧gk < Y6):PLaw w u' A0 A2 C4 C7 Y4 Y6 Y7 b0 B0 b7 B7 m m' qa qb:=by
 obtain⟨h1,h2,h3⟩:=hW
 have h7:=block_lt h.y7
 have h6:=block_lt h.y6
 have h4:=block_lt h.y4
 have h0:=block_lt h.l.1
 have ho:=h.o1
 refine⟨⟨(h3 _ h0 (by omega) (by omega) (by omega) (by omega)).trans h.l.1,h2 _ _ h.l.2 (by omega) (by omega) (by omega) (by omega) (by omega)⟩,(h3 _ h4 (by omega) (by omega) (by omega) (by omega)).trans h.y4,(h3 _ h6 (by omega) (by omega) (by omega) (by omega)).trans h.y6,(h3 _ h7 ?_ ?_ ?_ ?_).trans h.y7,h.a.stay fun g _ hg=>h3 g (by omega) (by omega) (by omega) (by omega) (by omega),h.b.stay fun g hb hg=>h3 g (by omega) (by omega) (by omega) (by omega) (by omega),h.o1⟩
 all_goals intro e
 all_goals
  have h8:=h.y6
  have h9:=h.y7
  omega
structure PAll (w u:World) (A0 A2 C4 C7:Array Value) (Y4 Y6 Y7 b0 B0 b7 B7:Nat) (m m':Pic) (qa qb:PicA) (P:Pic) (q:PicA) (bc gt gc gs gk:Nat):Prop where
 m:PLaw w u A0 A2 C4 C7 Y4 Y6 Y7 b0 B0 b7 B7 m m' qa qb
 p:PngIn u P q
 o:PngOwn u bc P gt gc gs gk
theorem PAll.called {w u u':World} {A0 A2 C4 C7:Array Value} {Y4 Y6 Y7 b0 B0 b7 B7:Nat} {m m':Pic} {qa qb:PicA} {P:Pic} {q:PicA} {bc gt gc gs gk:Nat} (h:PAll w u A0 A2 C4 C7 Y4 Y6 Y7 b0 B0 b7 B7 m m' qa qb P q bc gt gc gs gk) (hb:Below u.heap.size u u'):PAll w u' A0 A2 C4 C7 Y4 Y6 Y7 b0 B0 b7 B7 m m' qa qb P q bc gt gc gs gk:=⟨h.m.called hb,h.p.called hb,h.o.called hb⟩
theorem PLaw.marked {w u u':World} {A0 A2 C4 C7:Array Value} {Y4 Y6 Y7 b0 B0 b7 B7 k:Nat} {m m':Pic} {qa qb:PicA} (h:PLaw w u A0 A2 C4 C7 Y4 Y6 Y7 b0 B0 b7 B7 m m' qa qb) (hS:PngSL u' b7 (mrkP k m') qb) (hB:∀ (B:Nat) (w0:World),Below B w0 u→B≤u.heap.size→B≤b7→Below B w0 u') (hM:∀ (g:Nat) (cs:Array Value),u.heap[g]?=some (.cells cs 37 (0,0))→u'.heap[g]?=u.heap[g]?):PLaw w u' A0 A2 C4 C7 Y4 Y6 Y7 b0 B0 b7 B7 m (mrkP k m') qa qb:=by
 have ho:=h.o1
 have h6:=block_lt h.y6
 have h7:=block_lt h.y7
 have hbb:Below (Y6+1) u u':=hB (Y6+1) u (Below.refl _ _) (by omega) (by omega)
 have hl:=h.l
 exact⟨⟨(hbb.block _ (by omega)).trans h.l.1,hB _ _ h.l.2 (by omega) (by omega)⟩,(hbb.block _ (by omega)).trans h.y4,(hbb.block _ (by omega)).trans h.y6,(hM _ _ h.y7).trans h.y7,h.a.stay fun g h1 h2=>hbb.block g (by omega),h.b.marked hS,h.o1⟩
end Go.Proofs.YtkpbfmdnjnohlaaGreat
