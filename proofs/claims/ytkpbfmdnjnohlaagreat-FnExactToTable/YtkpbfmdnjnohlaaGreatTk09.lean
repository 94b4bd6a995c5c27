/-
  Texts of the proof, put together.
-/
import Derived.Test.YtkpbfmdnjnohlaaGreatTk08
namespace Go.Proofs.YtkpbfmdnjnohlaaGreat
section
open Go.RowKit Go.Joins HeadMath ChunkMath
def noPng:Value:=.agg #[.int .i64 0,.int .i64 0,.int .i64 0,.int .i64 0,.bool false,.slice none 0 0,.slice none 0 0,.int .i64 0,.int .i64 0,.int .i64 0,.int .i64 0,.slice none 0 0,.slice none 0 0]
def noPic:Pic:=⟨0,0,0,0,false,0,fun _=>(0,0,0),0,fun _=>0,0,0,0,0,0,fun _=>0,0,fun _=>(ByteArray.empty,ByteArray.empty)⟩
def noPicA:PicA:=⟨none,0,none,0,none,0,none,0⟩
def LessPost (c:Prop) (r:Pic) (w:World) (e:Ending) (w':World):Prop:=(¬ c∧e=.returned (.tuple #[noPng,.bool false])∧Below w.heap.size w w')∨(c∧∃ q,e=.returned (.tuple #[pngV r q,.bool true])∧PngSL w' w.heap.size r q∧Below w.heap.size w w')
theorem noPic_sz:PngSz noPic:=⟨Nat.zero_le _,Nat.zero_le _,Nat.zero_le _,Nat.zero_le _,fun i hi=>absurd hi (Nat.not_lt_zero i)⟩
theorem noPic_sl (w:World) (b:Nat):PngSL w b noPic noPicA:=⟨.inl rfl,.inl rfl,.inl rfl,.inl rfl,.inl rfl,Nat.le_refl _,by show 0≤maxLen; omega⟩
theorem less_one (c:Prop) (r:Pic) (hr:c→PngSz r):∃ (m:Pic) (b:Bool),PngSz m∧∀ w e w',LessPost c r w e w'→∃ q,e=.returned (.tuple #[pngV m q,.bool b])∧PngSL w' w.heap.size m q∧Below w.heap.size w w':=by
 by_cases hc:c
 ·refine⟨r,true,hr hc,fun w e w' h=>?_⟩
  rcases h with ⟨h,_⟩ | ⟨_,h⟩
  ·exact absurd hc h
  ·exact h
 ·refine⟨noPic,false,noPic_sz,fun w e w' h=>?_⟩
  rcases h with ⟨_,h1,h2⟩ | ⟨h,_⟩
  ·exact⟨noPicA,h1,noPic_sl _ _,h2⟩
  ·exact absurd h hc
theorem sl_apart {w1 w2:World} {b n n' c c':Nat} {a a':Option Addr} {f f':Nat→Int} (h:SL w1 b a n c f) (h':SL w2 w1.heap.size a' n' c' f'):n'=0∨n=0∨a'≠a:=by
 rcases h' with h' | ⟨g',e',h'⟩
 ·exact .inl h'
 rcases h with h | ⟨g,e,h⟩
 ·exact .inr (.inl h)
 refine .inr (.inr fun q=>?_)
 rw[e,e'] at q
 cases q
 have:=h.lt
 have:=h'.base_le
 omega
theorem SL.put {w:World} {b X n c:Nat} {O:Array Value} {a:Option Addr} {f:Nat→Int} (h:SL w b a n c f) (hX:BoxAt w X O) (k:Nat) (v:Value):SL (w.setCell ⟨X,k,none⟩ v) b a n c f:=by
 rcases h with h | ⟨g,e,h⟩
 ·exact .inl h
 ·refine .inr ⟨g,e,h.keep (Below.heap_setCell _ _ _ _ fun q=>?_)⟩
  obtain⟨cap,cur,fz,_,hb,hh,_⟩:=id h
  have q':g=X:=q
  rw[q',hX] at hh
  cases hh
theorem RgbSL.put {w:World} {b X n:Nat} {O:Array Value} {a:Option Addr} {f:Nat→Rgb3} (h:RgbSL w b a n f) (hX:BoxAt w X O) (k:Nat) (v:Value):RgbSL (w.setCell ⟨X,k,none⟩ v) b a n f:=by
 rcases h with h | ⟨g,e,h⟩
 ·exact .inl h
 ·refine .inr ⟨g,e,h.keep (Below.heap_setCell _ _ _ _ fun q=>?_)⟩
  obtain⟨hb,cur,hh,_⟩:=id h
  have q':g=X:=q
  rw[q',hX] at hh
  cases hh
theorem PngSL.put {w:World} {b X:Nat} {O:Array Value} {p:Pic} {q:PicA} (h:PngSL w b p q) (hX:BoxAt w X O) (k:Nat) (v:Value):PngSL (w.setCell ⟨X,k,none⟩ v) b p q:=⟨h.t.put hX k v,h.c.put hX k v,h.s.put hX k v,h.k.put hX k v,h.ne,h.capped⟩
theorem RgbSL.low {w:World} {base b n:Nat} {a:Option Addr} {F:Nat→Rgb3} (h:RgbSL w base a n F) (hb:b≤base):RgbSL w b a n F:=by
 rcases h with h | ⟨g,e,h1,h2⟩
 ·exact .inl h
 ·exact .inr ⟨g,e,Nat.le_trans hb h1,h2⟩
theorem PngSL.low {w:World} {base b:Nat} {p:Pic} {q:PicA} (h:PngSL w base p q) (hb:b≤base):PngSL w b p q:=⟨h.t.low hb,sl_low2 h.c hb,sl_low2 h.s hb,ksl_low2 h.k hb,h.ne,h.capped⟩
structure WP (w:World) (A:Array Value) (r:Pic) (q:PicA) (u:World):Prop where
 m:MoP w A u
 l:PngSL u w.heap.size r q
theorem WP.put {w u:World} {A:Array Value} {r:Pic} {q:PicA} (h:WP w A r q u) (k:Nat) (v:Value):WP w A r q (u.setCell ⟨w.heap.size+1,k,none⟩ v):=by
 obtain⟨Z,h2,_⟩:=h.m.2.1
 exact⟨h.m.put k v,PngSL.put (O:=Z) h.l h2 k v⟩
theorem WP.called {w u u':World} {A:Array Value} {r:Pic} {q:PicA} (h:WP w A r q u) (hb:Below u.heap.size u u'):WP w A r q u':=⟨h.m.called hb,h.l.called hb⟩
theorem WP.stored {w u:World} {A:Array Value} {r:Pic} {q:PicA} (h:WP w A r q u) (v0 v1 v2 v3 v4 v5 v6 v7 v8 v9 v10 v11 v12:Value):PngSL (((((((((((((u.setCell ⟨w.heap.size+1,0,none⟩ v0).setCell ⟨w.heap.size+1,1,none⟩ v1).setCell ⟨w.heap.size+1,2,none⟩ v2).setCell ⟨w.heap.size+1,3,none⟩ v3).setCell ⟨w.heap.size+1,4,none⟩ v4).setCell ⟨w.heap.size+1,5,none⟩ v5).setCell ⟨w.heap.size+1,6,none⟩ v6).setCell ⟨w.heap.size+1,7,none⟩ v7).setCell ⟨w.heap.size+1,8,none⟩ v8).setCell ⟨w.heap.size+1,9,none⟩ v9).setCell ⟨w.heap.size+1,10,none⟩ v10).setCell ⟨w.heap.size+1,11,none⟩ v11).setCell ⟨w.heap.size+1,12,none⟩ v12) w.heap.size r q∧Below w.heap.size w (((((((((((((u.setCell ⟨w.heap.size+1,0,none⟩ v0).setCell ⟨w.heap.size+1,1,none⟩ v1).setCell ⟨w.heap.size+1,2,none⟩ v2).setCell ⟨w.heap.size+1,3,none⟩ v3).setCell ⟨w.heap.size+1,4,none⟩ v4).setCell ⟨w.heap.size+1,5,none⟩ v5).setCell ⟨w.heap.size+1,6,none⟩ v6).setCell ⟨w.heap.size+1,7,none⟩ v7).setCell ⟨w.heap.size+1,8,none⟩ v8).setCell ⟨w.heap.size+1,9,none⟩ v9).setCell ⟨w.heap.size+1,10,none⟩ v10).setCell ⟨w.heap.size+1,11,none⟩ v11).setCell ⟨w.heap.size+1,12,none⟩ v12):=by
 have k:=((((((((((((h.put 0 v0).put 1 v1).put 2 v2).put 3 v3).put 4 v4).put 5 v5).put 6 v6).put 7 v7).put 8 v8).put 9 v9).put 10 v10).put 11 v11).put 12 v12
 exact⟨k.l,k.m.2.2⟩
theorem MoP.stored {w u:World} {A:Array Value} (h:MoP w A u) (v0 v1 v2 v3 v4 v5 v6 v7 v8 v9 v10 v11 v12:Value):Below w.heap.size w (((((((((((((u.setCell ⟨w.heap.size+1,0,none⟩ v0).setCell ⟨w.heap.size+1,1,none⟩ v1).setCell ⟨w.heap.size+1,2,none⟩ v2).setCell ⟨w.heap.size+1,3,none⟩ v3).setCell ⟨w.heap.size+1,4,none⟩ v4).setCell ⟨w.heap.size+1,5,none⟩ v5).setCell ⟨w.heap.size+1,6,none⟩ v6).setCell ⟨w.heap.size+1,7,none⟩ v7).setCell ⟨w.heap.size+1,8,none⟩ v8).setCell ⟨w.heap.size+1,9,none⟩ v9).setCell ⟨w.heap.size+1,10,none⟩ v10).setCell ⟨w.heap.size+1,11,none⟩ v11).setCell ⟨w.heap.size+1,12,none⟩ v12):=(((((((((((((h.put 0 v0).put 1 v1).put 2 v2).put 3 v3).put 4 v4).put 5 v5).put 6 v6).put 7 v7).put 8 v8).put 9 v9).put 10 v10).put 11 v11).put 12 v12).2.2
end
section
open Go.RowKit OutMath PutMath RastMath HeadMath ChunkMath
def mulD (d:Nat):Int:=65535 / (p2 d - 1)
def chanN (c:Int):Nat:=(chan c).toNat
def smq (p:Pic) (at' k:Nat):Int:=p.S (at' * chanN p.hc+k)
def coverT (p:Pic) (v:Int):Int:=if v < (p.cn:Int) then p.C v.toNat else 255
def clearAt (p:Pic) (at':Nat):Prop:=chanN p.hc=p.cn∧∀ i,i < chanN p.hc→smq p at' i=p.C i
def clearB (p:Pic) (at':Nat):Bool:=decide (chanN p.hc=p.cn) && (List.range (chanN p.hc)).all fun i=>decide (smq p at' i=p.C i)
theorem clearB_iff (p:Pic) (at':Nat):clearB p at'=true↔clearAt p at':=by
 unfold clearB clearAt
 simp
def pixV (p:Pic) (at':Nat) (k:Nat):Int:=
 if p.hc=3 then 257 * (if k=0 then (p.T (smq p at' 0).toNat).1 else if k=1 then (p.T (smq p at' 0).toNat).2.1 else if k=2 then (p.T (smq p at' 0).toNat).2.2 else coverT p (smq p at' 0))
 else if p.hc=4 then (if k < 3 then smq p at' 0 else smq p at' 1) * mulD p.hd.toNat
 else if p.hc=6 then smq p at' k * mulD p.hd.toNat
 else if k < 3 then (if p.hc=2 then smq p at' k else smq p at' 0) * mulD p.hd.toNat
 else if clearB p at' then 0 else 65535
def pixN (p:Pic):Nat:=(p.hw * p.hh).toNat
theorem mulD_five {d:Nat} (h:Five (d:Int)):1≤mulD d∧mulD d≤65535∧(p2 d - 1) * mulD d=65535∧1≤p2 d - 1:=by
 have:d=1∨d=2∨d=4∨d=8∨d=16:=by unfold Five at h; omega
 rcases this with rfl | rfl | rfl | rfl | rfl <;> decide +kernel
theorem mulD_way {d:Nat} (h:Five (d:Int)) (x:Int):x * 65535 / (p2 d - 1)=x * mulD d:=by
 obtain⟨_,_,h3,h4⟩:=mulD_five h
 rw[← h3,show x * ((p2 d - 1) * mulD d)=(x * mulD d) * (p2 d - 1) by rw [Int.mul_comm (p2 d - 1),Int.mul_assoc]]
 exact Int.mul_ediv_cancel _ (by omega)
end
section
open Go.RowKit OutMath PutMath RastMath HeadMath ChunkMath CrcMath
theorem png_n {p:Pic} (h:PngR p):p.sn=chanN p.hc * pixN p∧1≤pixN p∧pixN p≤576:=by
 obtain⟨⟨⟨_,_,_⟩,⟨⟨a1,a2⟩,⟨b1,b2⟩,_,hn,hS⟩,e1,e2,e3,e4⟩,_⟩:=h
 have h1:1≤p.rw * p.rh:=by
  have:=Int.mul_le_mul a1 b1 (by omega) (by omega)
  omega
 have h2:p.rw * p.rh≤24 * 24:=Int.mul_le_mul a2 b2 (by omega) (by omega)
 have h3:=chan_range p.rc
 unfold pixN chanN
 rw[← e1,← e2,← e3]
 refine⟨?_,by omega,by omega⟩
 have:((p.sn:Nat):Int)=(((chan p.rc).toNat * (p.rw * p.rh).toNat:Nat):Int):=by
  rw[hn,Int.natCast_mul,Int.toNat_of_nonneg h3.1,Int.toNat_of_nonneg (by omega),Int.mul_comm]
 exact Int.ofNat.inj this
end
end Go.Proofs.YtkpbfmdnjnohlaaGreat
