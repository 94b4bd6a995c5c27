/-
  Texts of the proof, put together.
-/
import Derived.Test.YtkpbfmdnjnohlaaGreatGk17
namespace Go.Proofs.YtkpbfmdnjnohlaaGreat
section
open Go.RowKit OutMath PutMath RastMath HeadMath ChunkMath CrcMath
def SafeR (x:ByteArray):Prop:=NameR x∧97≤byteAt x 3
def TouchyR (n:Nat) (K:Nat→Chk):Prop:=¬ ∀ i,i < n→SafeR (K i).1
def sbitN:ByteArray:=⟨#[115,66,73,84]⟩
def bkgdN:ByteArray:=⟨#[98,75,71,68]⟩
def histN:ByteArray:=⟨#[104,73,83,84]⟩
theorem sbit_not:¬ SafeR sbitN:=fun h=>absurd h.2 (by decide)
theorem bkgd_not:¬ SafeR bkgdN:=fun h=>absurd h.2 (by decide)
theorem hist_not:¬ SafeR histN:=fun h=>absurd h.2 (by decide)
theorem sbit_list:sbitN.toList=[115,66,73,84]:=by rw [ByteArray.toList_eq]; rfl
theorem bkgd_list:bkgdN.toList=[98,75,71,68]:=by rw [ByteArray.toList_eq]; rfl
theorem hist_list:histN.toList=[104,73,83,84]:=by rw [ByteArray.toList_eq]; rfl
def withP (p:Pic) (col dep:Int) (sn:Nat) (S:Nat→Int) (cn:Nat) (C:Nat→Int):Pic:=⟨p.hw,p.hh,dep,col,p.lace,0,fun _=>(0,0,0),cn,C,p.hw,p.hh,col,dep,sn,S,p.kn,p.K⟩
def HalfR (p:Pic) (b:Int):Prop:=(∀ i,i < p.sn→p.S i % b=0)∧∀ i,i < p.cn→p.C i % b=0
def halfP (p:Pic) (d b:Int):Pic:=withP p p.hc d p.sn (fun j=>p.S j / b) p.cn (fun j=>p.C j / b)
def MayR (p:Pic):Prop:=PngR p∧¬ TouchyR p.kn p.K
theorem fit_65535 {f:Nat→Int} {n d:Nat} (h:Fit12 f n d) (hd:d≤16):∀ i,i < n→0≤f i∧f i≤65535:=fun i hi=>by
 have q:=h i hi
 have q2:p2 d≤p2 16:=by unfold p2; exact_mod_cast Nat.pow_le_pow_right (by omega) hd
 have q3:p2 16=65536:=by decide
 omega
theorem depth_16 {c d:Int} (h:DepthR c d):d.toNat≤16∧1≤d∧d≤16:=by
 unfold DepthR Five at h
 omega
theorem png_fits {p:Pic} (h:PngR p):p.sn≤2304∧(∀ i,i < p.sn→0≤p.S i∧p.S i≤65535)∧p.cn≤256∧(∀ i,i < p.cn→0≤p.C i∧p.C i≤65535)∧p.kn≤32:=by
 obtain⟨⟨⟨_,_,hD⟩,⟨⟨a1,a2⟩,⟨b1,b2⟩,_,hn,hS⟩,e1,e2,e3,e4⟩,hT,hC,_,hK⟩:=h
 refine⟨?_,fit_65535 hS (by rw [e4]; exact (depth_16 hD).1),?_,?_,hK.1⟩
 ·have h1:0≤p.rw * p.rh:=Int.mul_nonneg (by omega) (by omega)
  have h2:p.rw * p.rh≤24 * 24:=Int.mul_le_mul a2 b2 (by omega) (by omega)
  have h3:=chan_range p.rc
  have h4:p.rw * p.rh * chan p.rc≤24 * 24 * 4:=Int.mul_le_mul h2 h3.2 h3.1 (by omega)
  omega
 ·rcases hC with h | ⟨_,⟨_,h,_⟩ | ⟨_,h,_⟩ | ⟨h3,h,_⟩⟩
  ·omega
  ·omega
  ·omega
  ·unfold FitsR at hT
   rw[if_pos h3] at hT
   have:=hT.1.1.2
   omega
 ·rcases hC with h | ⟨_,⟨_,_,h⟩ | ⟨_,_,h⟩ | ⟨_,_,h⟩⟩
  ·intro i hi; omega
  ·exact fit_65535 h (depth_16 hD).1
  ·exact fit_65535 h (depth_16 hD).1
  ·exact fit_65535 h (by omega)
end
section
open Go.RowKit Go.Joins HeadMath ChunkMath
def noPng:Value:=.agg #[.int .i64 0,.int .i64 0,.int .i64 0,.int .i64 0,.bool false,.slice none 0 0,.slice none 0 0,.int .i64 0,.int .i64 0,.int .i64 0,.int .i64 0,.slice none 0 0,.slice none 0 0]
def noPic:Pic:=⟨0,0,0,0,false,0,fun _=>(0,0,0),0,fun _=>0,0,0,0,0,0,fun _=>0,0,fun _=>(ByteArray.empty,ByteArray.empty)⟩
def noPicA:PicA:=⟨none,0,none,0,none,0,none,0⟩
def LessPost (c:Prop) (r:Pic) (w:World) (e:Ending) (w':World):Prop:=(¬ c∧e=.returned (.tuple #[noPng,.bool false])∧Below w.heap.size w w')∨(c∧∃ q,e=.returned (.tuple #[pngV r q,.bool true])∧PngSL w' w.heap.size r q∧Below w.heap.size w w')
theorem noPic_sz:PngSz noPic:=⟨Nat.zero_le _,Nat.zero_le _,Nat.zero_le _,Nat.zero_le _,fun i hi=>absurd hi (Nat.not_lt_zero i)⟩
theorem noPic_sl (w:World) (b:Nat):PngSL w b noPic noPicA:=⟨.inl rfl,.inl rfl,.inl rfl,.inl rfl,.inl rfl,Nat.le_refl _,by show 0≤maxLen; omega⟩
theorem less_one (c:Prop) (r:Pic) (hr:c→PngSz r):∃ (m:Pic) (b:Bool),PngSz m∧∀ w e w',LessPost c r w e w'→∃ q,e=.returned (.tuple #[pngV m q,.bool b])∧PngSL w' w.heap.size m q∧Below w.heap.size w w':=by
 by_cases hc:c
 ·refine⟨r,true,hr hc,fun w e w' h=>?_⟩
  rcases h with ⟨h,_⟩ | ⟨_,h⟩
  ·exact absurd hc h
  ·exact h
 ·refine⟨noPic,false,noPic_sz,fun w e w' h=>?_⟩
  rcases h with ⟨_,h1,h2⟩ | ⟨h,_⟩
  ·exact⟨noPicA,h1,noPic_sl _ _,h2⟩
  ·exact absurd h hc
theorem less_congr {c c':Prop} {r r':Pic} (hc:c↔c') (hr:c→r=r') {w:World} {e:Ending} {w':World} (h:LessPost c r w e w'):LessPost c' r' w e w':=by
 rcases h with ⟨h,k⟩ | ⟨h,q,k⟩
 ·exact .inl ⟨fun x=>h (hc.mpr x),k⟩
 ·exact .inr ⟨hc.mp h,q,by rw [← hr h]; exact k⟩
theorem sl_apart {w1 w2:World} {b n n' c c':Nat} {a a':Option Addr} {f f':Nat→Int} (h:SL w1 b a n c f) (h':SL w2 w1.heap.size a' n' c' f'):n'=0∨n=0∨a'≠a:=by
 rcases h' with h' | ⟨g',e',h'⟩
 ·exact .inl h'
 rcases h with h | ⟨g,e,h⟩
 ·exact .inr (.inl h)
 refine .inr (.inr fun q=>?_)
 rw[e,e'] at q
 cases q
 have:=h.lt
 have:=h'.base_le
 omega
theorem SL.put {w:World} {b X n c:Nat} {O:Array Value} {a:Option Addr} {f:Nat→Int} (h:SL w b a n c f) (hX:BoxAt w X O) (k:Nat) (v:Value):SL (w.setCell ⟨X,k,none⟩ v) b a n c f:=by
 rcases h with h | ⟨g,e,h⟩
 ·exact .inl h
 ·refine .inr ⟨g,e,h.keep (Below.heap_setCell _ _ _ _ fun q=>?_)⟩
  obtain⟨cap,cur,fz,_,hb,hh,_⟩:=id h
  have q':g=X:=q
  rw[q',hX] at hh
  cases hh
theorem RgbSL.put {w:World} {b X n:Nat} {O:Array Value} {a:Option Addr} {f:Nat→Rgb3} (h:RgbSL w b a n f) (hX:BoxAt w X O) (k:Nat) (v:Value):RgbSL (w.setCell ⟨X,k,none⟩ v) b a n f:=by
 rcases h with h | ⟨g,e,h⟩
 ·exact .inl h
 ·refine .inr ⟨g,e,h.keep (Below.heap_setCell _ _ _ _ fun q=>?_)⟩
  obtain⟨hb,cur,hh,_⟩:=id h
  have q':g=X:=q
  rw[q',hX] at hh
  cases hh
theorem PngSL.put {w:World} {b X:Nat} {O:Array Value} {p:Pic} {q:PicA} (h:PngSL w b p q) (hX:BoxAt w X O) (k:Nat) (v:Value):PngSL (w.setCell ⟨X,k,none⟩ v) b p q:=⟨h.t.put hX k v,h.c.put hX k v,h.s.put hX k v,h.k.put hX k v,h.ne,h.capped⟩
theorem RgbSL.low {w:World} {base b n:Nat} {a:Option Addr} {F:Nat→Rgb3} (h:RgbSL w base a n F) (hb:b≤base):RgbSL w b a n F:=by
 rcases h with h | ⟨g,e,h1,h2⟩
 ·exact .inl h
 ·exact .inr ⟨g,e,Nat.le_trans hb h1,h2⟩
theorem PngSL.low {w:World} {base b:Nat} {p:Pic} {q:PicA} (h:PngSL w base p q) (hb:b≤base):PngSL w b p q:=⟨h.t.low hb,sl_low2 h.c hb,sl_low2 h.s hb,ksl_low2 h.k hb,h.ne,h.capped⟩
structure WP (w:World) (A:Array Value) (r:Pic) (q:PicA) (u:World):Prop where
 m:MoP w A u
 l:PngSL u w.heap.size r q
theorem WP.put {w u:World} {A:Array Value} {r:Pic} {q:PicA} (h:WP w A r q u) (k:Nat) (v:Value):WP w A r q (u.setCell ⟨w.heap.size+1,k,none⟩ v):=by
 obtain⟨Z,h2,_⟩:=h.m.2.1
 exact⟨h.m.put k v,PngSL.put (O:=Z) h.l h2 k v⟩
theorem WP.called {w u u':World} {A:Array Value} {r:Pic} {q:PicA} (h:WP w A r q u) (hb:Below u.heap.size u u'):WP w A r q u':=⟨h.m.called hb,h.l.called hb⟩
theorem WP.stored {w u:World} {A:Array Value} {r:Pic} {q:PicA} (h:WP w A r q u) (v0 v1 v2 v3 v4 v5 v6 v7 v8 v9 v10 v11 v12:Value):PngSL (((((((((((((u.setCell ⟨w.heap.size+1,0,none⟩ v0).setCell ⟨w.heap.size+1,1,none⟩ v1).setCell ⟨w.heap.size+1,2,none⟩ v2).setCell ⟨w.heap.size+1,3,none⟩ v3).setCell ⟨w.heap.size+1,4,none⟩ v4).setCell ⟨w.heap.size+1,5,none⟩ v5).setCell ⟨w.heap.size+1,6,none⟩ v6).setCell ⟨w.heap.size+1,7,none⟩ v7).setCell ⟨w.heap.size+1,8,none⟩ v8).setCell ⟨w.heap.size+1,9,none⟩ v9).setCell ⟨w.heap.size+1,10,none⟩ v10).setCell ⟨w.heap.size+1,11,none⟩ v11).setCell ⟨w.heap.size+1,12,none⟩ v12) w.heap.size r q∧Below w.heap.size w (((((((((((((u.setCell ⟨w.heap.size+1,0,none⟩ v0).setCell ⟨w.heap.size+1,1,none⟩ v1).setCell ⟨w.heap.size+1,2,none⟩ v2).setCell ⟨w.heap.size+1,3,none⟩ v3).setCell ⟨w.heap.size+1,4,none⟩ v4).setCell ⟨w.heap.size+1,5,none⟩ v5).setCell ⟨w.heap.size+1,6,none⟩ v6).setCell ⟨w.heap.size+1,7,none⟩ v7).setCell ⟨w.heap.size+1,8,none⟩ v8).setCell ⟨w.heap.size+1,9,none⟩ v9).setCell ⟨w.heap.size+1,10,none⟩ v10).setCell ⟨w.heap.size+1,11,none⟩ v11).setCell ⟨w.heap.size+1,12,none⟩ v12):=by
 have k:=((((((((((((h.put 0 v0).put 1 v1).put 2 v2).put 3 v3).put 4 v4).put 5 v5).put 6 v6).put 7 v7).put 8 v8).put 9 v9).put 10 v10).put 11 v11).put 12 v12
 exact⟨k.l,k.m.2.2⟩
theorem MoP.stored {w u:World} {A:Array Value} (h:MoP w A u) (v0 v1 v2 v3 v4 v5 v6 v7 v8 v9 v10 v11 v12:Value):Below w.heap.size w (((((((((((((u.setCell ⟨w.heap.size+1,0,none⟩ v0).setCell ⟨w.heap.size+1,1,none⟩ v1).setCell ⟨w.heap.size+1,2,none⟩ v2).setCell ⟨w.heap.size+1,3,none⟩ v3).setCell ⟨w.heap.size+1,4,none⟩ v4).setCell ⟨w.heap.size+1,5,none⟩ v5).setCell ⟨w.heap.size+1,6,none⟩ v6).setCell ⟨w.heap.size+1,7,none⟩ v7).setCell ⟨w.heap.size+1,8,none⟩ v8).setCell ⟨w.heap.size+1,9,none⟩ v9).setCell ⟨w.heap.size+1,10,none⟩ v10).setCell ⟨w.heap.size+1,11,none⟩ v11).setCell ⟨w.heap.size+1,12,none⟩ v12):=(((((((((((((h.put 0 v0).put 1 v1).put 2 v2).put 3 v3).put 4 v4).put 5 v5).put 6 v6).put 7 v7).put 8 v8).put 9 v9).put 10 v10).put 11 v11).put 12 v12).2.2
end
section
open Go.RowKit Go.Joins HeadMath ChunkMath
theorem half_sz {p:Pic} (hZ:PngSz p) (d b:Int):PngSz (halfP p d b):=⟨Nat.zero_le _,hZ.c,hZ.s,hZ.k,hZ.m⟩
end
section
open Go.RowKit
theorem in_yes (x a b:Int) (w:World) (h1:a≤x) (h2:x≤b):
  Calls Tryz.prog 115 #[.int .i64 x,.int .i64 a,.int .i64 b] w fun e w'=>e=.returned (.bool true)∧w'=w:=by
 go_enter Tryz.func115,Tryz.ntmps115
 go_wp2
 go_ret
 exact⟨rfl,rfl⟩
theorem in_no (x a b:Int) (w:World) (h:¬ (a≤x∧x≤b)):
  Calls Tryz.prog 115 #[.int .i64 x,.int .i64 a,.int .i64 b] w fun e w'=>e=.returned (.bool false)∧w'=w:=by
 by_cases h1:a≤x
 ·have h2:¬ x≤b:=fun k=>h ⟨h1,k⟩
  clear h
  go_enter Tryz.func115,Tryz.ntmps115
  go_wp2
  go_ret
  exact⟨rfl,rfl⟩
 ·clear h
  go_enter Tryz.func115,Tryz.ntmps115
  go_wp2
  go_ret
  exact⟨rfl,rfl⟩
end
end Go.Proofs.YtkpbfmdnjnohlaaGreat
