/-
  Texts of the proof, put together.
-/
import Derived.Test.YtkpbfmdnjnohlaaGreatTk07
import Derived.Test.YtkpbfmdnjnohlaaGreatTk08
import Derived.Test.YtkpbfmdnjnohlaaGreatTk11
import Derived.Test.YtkpbfmdnjnohlaaGreatTk12
namespace Go.Proofs.YtkpbfmdnjnohlaaGreat
section
open Go.RowKit Go.Joins OutMath PutMath RastMath HeadMath ChunkMath
structure PngAt (w:World) (base B:Nat) (m:Pic) (q:PicA):Prop where
 t:m.tn=0∨∃ g,q.ta=some ⟨g,0,none⟩∧g < B∧RgbOwn w base g m.tn m.T
 c:m.cn=0∨∃ g,q.ca=some ⟨g,0,none⟩∧g < B∧IOwn w base g m.cn q.cc m.C
 s:m.sn=0∨∃ g,q.sa=some ⟨g,0,none⟩∧g < B∧IOwn w base g m.sn q.sc m.S
 k:m.kn=0∨∃ g,q.ka=some ⟨g,0,none⟩∧g < B∧KOwn w base g m.kn m.K
 ne:m.cn=0∨m.sn=0∨q.ca≠q.sa
 capped:m.sn≤q.sc∧q.sc≤maxLen
theorem PngSL.at_ {w:World} {base:Nat} {m:Pic} {q:PicA} (h:PngSL w base m q):PngAt w base w.heap.size m q:=by
 refine⟨?_,?_,?_,?_,h.ne,h.capped⟩
 ·rcases h.t with h | ⟨g,e,ho⟩
  ·exact .inl h
  ·exact .inr ⟨g,e,ho.lt,ho⟩
 ·rcases h.c with h | ⟨g,e,ho⟩
  ·exact .inl h
  ·exact .inr ⟨g,e,ho.lt,ho⟩
 ·rcases h.s with h | ⟨g,e,ho⟩
  ·exact .inl h
  ·exact .inr ⟨g,e,ho.lt,ho⟩
 ·rcases h.k with h | ⟨g,e,ho⟩
  ·exact .inl h
  ·exact .inr ⟨g,e,ho.lt,ho⟩
theorem PngAt.stay {w w':World} {base B:Nat} {m:Pic} {q:PicA} (h:PngAt w base B m q) (hk:∀ g,base≤g→g < B→w'.heap[g]?=w.heap[g]?):PngAt w' base B m q:=by
 refine⟨?_,?_,?_,?_,h.ne,h.capped⟩
 ·rcases h.t with h | ⟨g,e,hl,ho⟩
  ·exact .inl h
  ·exact .inr ⟨g,e,hl,ho.keep (hk g ho.1 hl)⟩
 ·rcases h.c with h | ⟨g,e,hl,ho⟩
  ·exact .inl h
  ·exact .inr ⟨g,e,hl,ho.keep (hk g ho.base_le hl)⟩
 ·rcases h.s with h | ⟨g,e,hl,ho⟩
  ·exact .inl h
  ·exact .inr ⟨g,e,hl,ho.keep (hk g ho.base_le hl)⟩
 ·rcases h.k with h | ⟨g,e,hl,ho⟩
  ·exact .inl h
  ·exact .inr ⟨g,e,hl,ho.keep (hk g ho.1 hl)⟩
theorem PngAt.sl {w:World} {base B:Nat} {m:Pic} {q:PicA} (h:PngAt w base B m q):PngSL w base m q:=by
 refine⟨?_,?_,?_,?_,h.ne,h.capped⟩
 ·rcases h.t with h | ⟨g,e,_,ho⟩
  ·exact .inl h
  ·exact .inr ⟨g,e,ho⟩
 ·rcases h.c with h | ⟨g,e,_,ho⟩
  ·exact .inl h
  ·exact .inr ⟨g,e,ho⟩
 ·rcases h.s with h | ⟨g,e,_,ho⟩
  ·exact .inl h
  ·exact .inr ⟨g,e,ho⟩
 ·rcases h.k with h | ⟨g,e,_,ho⟩
  ·exact .inl h
  ·exact .inr ⟨g,e,ho⟩
theorem PngAt.marked {u u':World} {b7 B7 k:Nat} {m:Pic} {q:PicA} (h:PngAt u b7 B7 m q) (hS:PngSL u' b7 (mrkP k m) q):PngAt u' b7 B7 (mrkP k m) q:=by
 refine⟨?_,?_,?_,?_,hS.ne,hS.capped⟩
 ·rcases hS.t with h0 | ⟨g,e,ho⟩
  ·exact .inl h0
  ·rcases h.t with h1 | ⟨g1,e1,l1,_⟩
   ·exact .inl h1
   ·rw[e1] at e; cases e; exact .inr ⟨_,e1,l1,ho⟩
 ·rcases hS.c with h0 | ⟨g,e,ho⟩
  ·exact .inl h0
  ·rcases h.c with h1 | ⟨g1,e1,l1,_⟩
   ·exact .inl h1
   ·rw[e1] at e; cases e; exact .inr ⟨_,e1,l1,ho⟩
 ·rcases hS.s with h0 | ⟨g,e,ho⟩
  ·exact .inl h0
  ·rcases h.s with h1 | ⟨g1,e1,l1,_⟩
   ·exact .inl h1
   ·rw[e1] at e; cases e; exact .inr ⟨_,e1,l1,ho⟩
 ·rcases hS.k with h0 | ⟨g,e,ho⟩
  ·exact .inl h0
  ·rcases h.k with h1 | ⟨g1,e1,l1,_⟩
   ·exact .inl h1
   ·rw[e1] at e; cases e; exact .inr ⟨_,e1,l1,ho⟩
structure PLaw (w u:World) (A0 A2 C4 C7:Array Value) (Y4 Y6 Y7 b0 B0 b7 B7:Nat) (m m':Pic) (qa qb:PicA):Prop where
 l:LBox w u A0
 y4:BoxAt u Y4 C4
 y6:BoxAt u Y6 A2
 y7:BoxAt u Y7 C7
 a:PngAt u b0 B0 m qa
 b:PngAt u b7 B7 m' qb
 o1:w.heap.size < Y4∧w.heap.size < b0∧B0≤Y4∧Y4 < Y6∧Y6 < b7∧B7≤Y7∧Y6 < Y7
theorem PLaw.called {w u u':World} {A0 A2 C4 C7:Array Value} {Y4 Y6 Y7 b0 B0 b7 B7:Nat} {m m':Pic} {qa qb:PicA} (h:PLaw w u A0 A2 C4 C7 Y4 Y6 Y7 b0 B0 b7 B7 m m' qa qb) (hb:Below u.heap.size u u'):PLaw w u' A0 A2 C4 C7 Y4 Y6 Y7 b0 B0 b7 B7 m m' qa qb:=by
 have h7:=block_lt h.y7
 have h4:=block_lt h.y4
 have ho:=h.o1
 exact⟨h.l.called hb,h.y4.called hb,h.y6.called hb,h.y7.called hb,h.a.stay fun g _ h2=>hb.block g (by omega),h.b.stay fun g _ h2=>hb.block g (by omega),h.o1⟩
theorem PLaw.wrote {w u u':World} {A0 A2 C4 C7:Array Value} {Y4 Y6 Y7 b0 B0 b7 B7 gt gc gs gk:Nat} {m m':Pic} {qa qb:PicA} (h:PLaw w u A0 A2 C4 C7 Y4 Y6 Y7 b0 B0 b7 B7 m m' qa qb) (hW:Wrote gt gc gs gk u u') (hr:Y4 < gt∧gt < gc∧gc < gs∧gs < gk∧gk < Y6):PLaw w u' A0 A2 C4 C7 Y4 Y6 Y7 b0 B0 b7 B7 m m' qa qb:=by
 obtain⟨h1,h2,h3⟩:=hW
 have h7:=block_lt h.y7
 have h6:=block_lt h.y6
 have h4:=block_lt h.y4
 have h0:=block_lt h.l.1
 have ho:=h.o1
 refine⟨⟨(h3 _ h0 (by omega) (by omega) (by omega) (by omega)).trans h.l.1,h2 _ _ h.l.2 (by omega) (by omega) (by omega) (by omega) (by omega)⟩,(h3 _ h4 (by omega) (by omega) (by omega) (by omega)).trans h.y4,(h3 _ h6 (by omega) (by omega) (by omega) (by omega)).trans h.y6,(h3 _ h7 ?_ ?_ ?_ ?_).trans h.y7,h.a.stay fun g _ hg=>h3 g (by omega) (by omega) (by omega) (by omega) (by omega),h.b.stay fun g hb hg=>h3 g (by omega) (by omega) (by omega) (by omega) (by omega),h.o1⟩
 all_goals intro e
 all_goals
  have h8:=h.y6
  have h9:=h.y7
  omega
structure PAll (w u:World) (A0 A2 C4 C7:Array Value) (Y4 Y6 Y7 b0 B0 b7 B7:Nat) (m m':Pic) (qa qb:PicA) (P:Pic) (q:PicA) (bc gt gc gs gk:Nat):Prop where
 m:PLaw w u A0 A2 C4 C7 Y4 Y6 Y7 b0 B0 b7 B7 m m' qa qb
 p:PngIn u P q
 o:PngOwn u bc P gt gc gs gk
theorem PAll.called {w u u':World} {A0 A2 C4 C7:Array Value} {Y4 Y6 Y7 b0 B0 b7 B7:Nat} {m m':Pic} {qa qb:PicA} {P:Pic} {q:PicA} {bc gt gc gs gk:Nat} (h:PAll w u A0 A2 C4 C7 Y4 Y6 Y7 b0 B0 b7 B7 m m' qa qb P q bc gt gc gs gk) (hb:Below u.heap.size u u'):PAll w u' A0 A2 C4 C7 Y4 Y6 Y7 b0 B0 b7 B7 m m' qa qb P q bc gt gc gs gk:=⟨h.m.called hb,h.p.called hb,h.o.called hb⟩
theorem PLaw.marked {w u u':World} {A0 A2 C4 C7:Array Value} {Y4 Y6 Y7 b0 B0 b7 B7 k:Nat} {m m':Pic} {qa qb:PicA} (h:PLaw w u A0 A2 C4 C7 Y4 Y6 Y7 b0 B0 b7 B7 m m' qa qb) (hS:PngSL u' b7 (mrkP k m') qb) (hB:∀ (B:Nat) (w0:World),Below B w0 u→B≤u.heap.size→B≤b7→Below B w0 u') (hM:∀ (g:Nat) (cs:Array Value),u.heap[g]?=some (.cells cs 37 (0,0))→u'.heap[g]?=u.heap[g]?):PLaw w u' A0 A2 C4 C7 Y4 Y6 Y7 b0 B0 b7 B7 m (mrkP k m') qa qb:=by
 have ho:=h.o1
 have h6:=block_lt h.y6
 have h7:=block_lt h.y7
 have hbb:Below (Y6+1) u u':=hB (Y6+1) u (Below.refl _ _) (by omega) (by omega)
 have hl:=h.l
 exact⟨⟨(hbb.block _ (by omega)).trans h.l.1,hB _ _ h.l.2 (by omega) (by omega)⟩,(hbb.block _ (by omega)).trans h.y4,(hbb.block _ (by omega)).trans h.y6,(hM _ _ h.y7).trans h.y7,h.a.stay fun g h1 h2=>hbb.block g (by omega),h.b.marked hS,h.o1⟩
end
section
open Go.RowKit Go.Joins HeadMath ChunkMath
def MoP (w:World) (A:Array Value) (u:World):Prop:=u.heap[w.heap.size]?=some (.cells A 37 (0,0))∧(∃ Z,u.heap[w.heap.size+1]?=some (.cells Z 37 (0,0))∧Z.size=13)∧Below w.heap.size w u
theorem MoP.start (w:World) (A Z:Array Value) (hz:Z.size=13):MoP w A ((w.alloc (.cells A 37)).alloc (.cells Z 37)):=by
 refine⟨?_,⟨Z,?_,hz⟩,bal (bstart _ _) _⟩
 ·show ((w.heap.push _).push _)[w.heap.size]?=_
  rw[Array.getElem?_push,if_neg (by simp),Array.getElem?_push,if_pos (by simp)]
 ·show ((w.heap.push _).push _)[w.heap.size+1]?=_
  rw[Array.getElem?_push,if_pos (by simp)]
theorem MoP.called {w u u':World} {A:Array Value} (h:MoP w A u) (hb:Below u.heap.size u u'):MoP w A u':=by
 obtain⟨h1,⟨Z,h2,hz⟩,h3⟩:=h
 exact⟨(hb.block _ (block_lt h1)).trans h1,⟨Z,(hb.block _ (block_lt h2)).trans h2,hz⟩,bnext h3 hb⟩
theorem MoP.put {w u:World} {A:Array Value} (h:MoP w A u) (k:Nat) (v:Value):MoP w A (u.setCell ⟨w.heap.size+1,k,none⟩ v):=by
 obtain⟨h1,⟨Z,h2,hz⟩,h3⟩:=h
 refine⟨?_,⟨Z.setIfInBounds k v,?_,by simpa using hz⟩,h3.setCell (p:=⟨w.heap.size+1,k,none⟩) (by simp) v⟩
 ·rw[Below.heap_setCell _ _ _ _ (by simp)]; exact h1
 ·simp[World.setCell,Array.getElem?_modify,h2]
theorem MoP.other {w u:World} {A:Array Value} (h:MoP w A u) (X k:Nat) (v:Value) (hX:w.heap.size+1 < X):MoP w A (u.setCell ⟨X,k,none⟩ v):=by
 obtain⟨h1,⟨Z,h2,hz⟩,h3⟩:=h
 refine⟨?_,⟨Z,?_,hz⟩,h3.setCell (p:=⟨X,k,none⟩) (by show w.heap.size≤X; omega) v⟩
 ·rw[Below.heap_setCell _ _ _ _ (by show w.heap.size≠X; omega)]; exact h1
 ·rw[Below.heap_setCell _ _ _ _ (by show w.heap.size+1≠X; omega)]; exact h2
theorem MoP.cells {w u:World} {A:Array Value} (h:MoP w A u):(∃ c0 c1 c2 c3 c4 c5 c6 c7 c8 c9 c10 c11 c12,u.cell? ⟨w.heap.size+1,0,none⟩=some c0∧u.cell? ⟨w.heap.size+1,1,none⟩=some c1∧u.cell? ⟨w.heap.size+1,2,none⟩=some c2∧u.cell? ⟨w.heap.size+1,3,none⟩=some c3∧u.cell? ⟨w.heap.size+1,4,none⟩=some c4∧u.cell? ⟨w.heap.size+1,5,none⟩=some c5∧u.cell? ⟨w.heap.size+1,6,none⟩=some c6∧u.cell? ⟨w.heap.size+1,7,none⟩=some c7∧u.cell? ⟨w.heap.size+1,8,none⟩=some c8∧u.cell? ⟨w.heap.size+1,9,none⟩=some c9∧u.cell? ⟨w.heap.size+1,10,none⟩=some c10∧u.cell? ⟨w.heap.size+1,11,none⟩=some c11∧u.cell? ⟨w.heap.size+1,12,none⟩=some c12)∧(∀ k,u.frozen? ⟨w.heap.size+1,k,none⟩=false)∧w.heap.size+1 < u.heap.size:=by
 obtain⟨_,⟨Z,h2,hz⟩,_⟩:=h
 exact⟨⟨Z[0]'(by omega),Z[1]'(by omega),Z[2]'(by omega),Z[3]'(by omega),Z[4]'(by omega),Z[5]'(by omega),Z[6]'(by omega),Z[7]'(by omega),Z[8]'(by omega),Z[9]'(by omega),Z[10]'(by omega),Z[11]'(by omega),Z[12]'(by omega),(cell_of_block h2 0).trans (Array.getElem?_eq_getElem (by omega)),(cell_of_block h2 1).trans (Array.getElem?_eq_getElem (by omega)),(cell_of_block h2 2).trans (Array.getElem?_eq_getElem (by omega)),(cell_of_block h2 3).trans (Array.getElem?_eq_getElem (by omega)),(cell_of_block h2 4).trans (Array.getElem?_eq_getElem (by omega)),(cell_of_block h2 5).trans (Array.getElem?_eq_getElem (by omega)),(cell_of_block h2 6).trans (Array.getElem?_eq_getElem (by omega)),(cell_of_block h2 7).trans (Array.getElem?_eq_getElem (by omega)),(cell_of_block h2 8).trans (Array.getElem?_eq_getElem (by omega)),(cell_of_block h2 9).trans (Array.getElem?_eq_getElem (by omega)),(cell_of_block h2 10).trans (Array.getElem?_eq_getElem (by omega)),(cell_of_block h2 11).trans (Array.getElem?_eq_getElem (by omega)),(cell_of_block h2 12).trans (Array.getElem?_eq_getElem (by omega))⟩,unfrozen_of_block h2,block_lt h2⟩
theorem ksl_low2 {w:World} {base b:Nat} {a:Option Addr} {n:Nat} {F:Nat→Chk} (h:KSL w base a n F) (hb:b≤base):KSL w b a n F:=by
 rcases h with h | ⟨g,e,h1,h2⟩
 ·exact .inl h
 ·exact .inr ⟨g,e,Nat.le_trans hb h1,h2⟩
theorem sl_low2 {w:World} {base b:Nat} {a:Option Addr} {n c:Nat} {f:Nat→Int} (h:SL w base a n c f) (hb:b≤base):SL w b a n c f:=by
 rcases h with h | ⟨g,e,h⟩
 ·exact .inl h
 ·exact .inr ⟨g,e,h.mono hb⟩
theorem BoxAt.put {w:World} {B:Nat} {O:Array Value} (h:BoxAt w B O) (k:Nat) (v:Value):BoxAt (w.setCell ⟨B,k,none⟩ v) B (O.setIfInBounds k v):=by
 unfold BoxAt at h ⊢
 simp[World.setCell,Array.getElem?_modify,h]
theorem KSL.put {w:World} {b X:Nat} {O:Array Value} {a:Option Addr} {n:Nat} {F:Nat→Chk} (h:KSL w b a n F) (hX:BoxAt w X O) (k:Nat) (v:Value):KSL (w.setCell ⟨X,k,none⟩ v) b a n F:=by
 rcases h with h | ⟨g,e,h⟩
 ·exact .inl h
 ·refine .inr ⟨g,e,h.keep (Below.heap_setCell _ _ _ _ fun q=>?_)⟩
  obtain⟨_,cur,hh,_⟩:=h
  have q':g=X:=q
  rw[q',hX] at hh
  cases hh
structure WK (w:World) (A:Array Value) (X:Nat) (O:Array Value) (a:Option Addr) (n:Nat) (F:Nat→Chk) (u:World):Prop where
 m:MoP w A u
 x:BoxAt u X O
 k:KSL u w.heap.size a n F
 lt:w.heap.size+1 < X
theorem WK.called {w u u':World} {A O:Array Value} {X n:Nat} {a:Option Addr} {F:Nat→Chk} (h:WK w A X O a n F u) (hb:Below u.heap.size u u'):WK w A X O a n F u':=⟨h.m.called hb,h.x.called hb,h.k.called hb,h.lt⟩
theorem WK.set {w u:World} {A O:Array Value} {X n:Nat} {a:Option Addr} {F:Nat→Chk} (h:WK w A X O a n F u) (k:Nat) (v:Value):WK w A X (O.setIfInBounds k v) a n F (u.setCell ⟨X,k,none⟩ v):=⟨h.m.other X k v h.lt,h.x.put k v,h.k.put h.x k v,h.lt⟩
theorem WK.put {w u:World} {A O:Array Value} {X n:Nat} {a:Option Addr} {F:Nat→Chk} (h:WK w A X O a n F u) (k:Nat) (v:Value):WK w A X O a n F (u.setCell ⟨w.heap.size+1,k,none⟩ v):=by
 obtain⟨Z,h2,_⟩:=h.m.2.1
 exact⟨h.m.put k v,by rw [BoxAt,Below.heap_setCell _ _ _ _ (by show X≠w.heap.size+1; have:=h.lt; omega)]; exact h.x,KSL.put (O:=Z) h.k h2 k v,h.lt⟩
def WithPost (w:World) (p:Pic) (col dep:Int) (sa:Option Addr) (sn sc:Nat) (ca:Option Addr) (cn cc:Nat) (e:Ending) (w':World):Prop:=∃ k kc,e=.returned (.agg #[.int .i64 p.hw,.int .i64 p.hh,.int .i64 dep,.int .i64 col,.bool p.lace,.slice none 0 0,.slice ca cn cc,.int .i64 p.hw,.int .i64 p.hh,.int .i64 col,.int .i64 dep,.slice sa sn sc,.slice k p.kn kc])∧KSL w' w.heap.size k p.kn p.K∧Below w.heap.size w w'
end
section
open Go.RowKit OutMath PutMath RastMath HeadMath ChunkMath CrcMath
def SafeR (x:ByteArray):Prop:=NameR x∧97≤byteAt x 3
def TouchyR (n:Nat) (K:Nat→Chk):Prop:=¬ ∀ i,i < n→SafeR (K i).1
def sbitN:ByteArray:=⟨#[115,66,73,84]⟩
def bkgdN:ByteArray:=⟨#[98,75,71,68]⟩
def histN:ByteArray:=⟨#[104,73,83,84]⟩
theorem sbit_not:¬ SafeR sbitN:=fun h=>absurd h.2 (by decide)
theorem bkgd_not:¬ SafeR bkgdN:=fun h=>absurd h.2 (by decide)
theorem hist_not:¬ SafeR histN:=fun h=>absurd h.2 (by decide)
theorem sbit_list:sbitN.toList=[115,66,73,84]:=by rw [ByteArray.toList_eq]; rfl
theorem bkgd_list:bkgdN.toList=[98,75,71,68]:=by rw [ByteArray.toList_eq]; rfl
theorem hist_list:histN.toList=[104,73,83,84]:=by rw [ByteArray.toList_eq]; rfl
def MayR (p:Pic):Prop:=PngR p∧¬ TouchyR p.kn p.K
theorem fit_65535 {f:Nat→Int} {n d:Nat} (h:Fit12 f n d) (hd:d≤16):∀ i,i < n→0≤f i∧f i≤65535:=fun i hi=>by
 have q:=h i hi
 have q2:p2 d≤p2 16:=by unfold p2; exact_mod_cast Nat.pow_le_pow_right (by omega) hd
 have q3:p2 16=65536:=by decide
 omega
theorem depth_16 {c d:Int} (h:DepthR c d):d.toNat≤16∧1≤d∧d≤16:=by
 unfold DepthR Five at h
 omega
theorem png_fits {p:Pic} (h:PngR p):p.sn≤2304∧(∀ i,i < p.sn→0≤p.S i∧p.S i≤65535)∧p.cn≤256∧(∀ i,i < p.cn→0≤p.C i∧p.C i≤65535)∧p.kn≤32:=by
 obtain⟨⟨⟨_,_,hD⟩,⟨⟨a1,a2⟩,⟨b1,b2⟩,_,hn,hS⟩,e1,e2,e3,e4⟩,hT,hC,_,hK⟩:=h
 refine⟨?_,fit_65535 hS (by rw [e4]; exact (depth_16 hD).1),?_,?_,hK.1⟩
 ·have h1:0≤p.rw * p.rh:=Int.mul_nonneg (by omega) (by omega)
  have h2:p.rw * p.rh≤24 * 24:=Int.mul_le_mul a2 b2 (by omega) (by omega)
  have h3:=chan_range p.rc
  have h4:p.rw * p.rh * chan p.rc≤24 * 24 * 4:=Int.mul_le_mul h2 h3.2 h3.1 (by omega)
  omega
 ·rcases hC with h | ⟨_,⟨_,h,_⟩ | ⟨_,h,_⟩ | ⟨h3,h,_⟩⟩
  ·omega
  ·omega
  ·omega
  ·unfold FitsR at hT
   rw[if_pos h3] at hT
   have:=hT.1.1.2
   omega
 ·rcases hC with h | ⟨_,⟨_,_,h⟩ | ⟨_,_,h⟩ | ⟨_,_,h⟩⟩
  ·intro i hi; omega
  ·exact fit_65535 h (depth_16 hD).1
  ·exact fit_65535 h (depth_16 hD).1
  ·exact fit_65535 h (by omega)
end
end Go.Proofs.YtkpbfmdnjnohlaaGreat
