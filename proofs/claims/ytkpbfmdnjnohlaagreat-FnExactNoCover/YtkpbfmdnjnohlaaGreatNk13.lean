/-
  Texts of the proof, put together.
-/
import Derived.Test.YtkpbfmdnjnohlaaGreatNk12
namespace Go.Proofs.YtkpbfmdnjnohlaaGreat
section
open Go.RowKit Go.Joins HeadMath ChunkMath
def noPng:Value:=.agg #[.int .i64 0,.int .i64 0,.int .i64 0,.int .i64 0,.bool false,.slice none 0 0,.slice none 0 0,.int .i64 0,.int .i64 0,.int .i64 0,.int .i64 0,.slice none 0 0,.slice none 0 0]
def noPic:Pic:=⟨0,0,0,0,false,0,fun _=>(0,0,0),0,fun _=>0,0,0,0,0,0,fun _=>0,0,fun _=>(ByteArray.empty,ByteArray.empty)⟩
def noPicA:PicA:=⟨none,0,none,0,none,0,none,0⟩
def LessPost (c:Prop) (r:Pic) (w:World) (e:Ending) (w':World):Prop:=(¬ c∧e=.returned (.tuple #[noPng,.bool false])∧Below w.heap.size w w')∨(c∧∃ q,e=.returned (.tuple #[pngV r q,.bool true])∧PngSL w' w.heap.size r q∧Below w.heap.size w w')
theorem noPic_sz:PngSz noPic:=⟨Nat.zero_le _,Nat.zero_le _,Nat.zero_le _,Nat.zero_le _,fun i hi=>absurd hi (Nat.not_lt_zero i)⟩
theorem noPic_sl (w:World) (b:Nat):PngSL w b noPic noPicA:=⟨.inl rfl,.inl rfl,.inl rfl,.inl rfl,.inl rfl,Nat.le_refl _,by show 0≤maxLen; omega⟩
theorem less_one (c:Prop) (r:Pic) (hr:c→PngSz r):∃ (m:Pic) (b:Bool),PngSz m∧∀ w e w',LessPost c r w e w'→∃ q,e=.returned (.tuple #[pngV m q,.bool b])∧PngSL w' w.heap.size m q∧Below w.heap.size w w':=by
 by_cases hc:c
 ·refine⟨r,true,hr hc,fun w e w' h=>?_⟩
  rcases h with ⟨h,_⟩ | ⟨_,h⟩
  ·exact absurd hc h
  ·exact h
 ·refine⟨noPic,false,noPic_sz,fun w e w' h=>?_⟩
  rcases h with ⟨_,h1,h2⟩ | ⟨h,_⟩
  ·exact⟨noPicA,h1,noPic_sl _ _,h2⟩
  ·exact absurd h hc
theorem less_congr {c c':Prop} {r r':Pic} (hc:c↔c') (hr:c→r=r') {w:World} {e:Ending} {w':World} (h:LessPost c r w e w'):LessPost c' r' w e w':=by
 rcases h with ⟨h,k⟩ | ⟨h,q,k⟩
 ·exact .inl ⟨fun x=>h (hc.mpr x),k⟩
 ·exact .inr ⟨hc.mp h,q,by rw [← hr h]; exact k⟩
theorem SL.put {w:World} {b X n c:Nat} {O:Array Value} {a:Option Addr} {f:Nat→Int} (h:SL w b a n c f) (hX:BoxAt w X O) (k:Nat) (v:Value):SL (w.setCell ⟨X,k,none⟩ v) b a n c f:=by
 rcases h with h | ⟨g,e,h⟩
 ·exact .inl h
 ·refine .inr ⟨g,e,h.keep (Below.heap_setCell _ _ _ _ fun q=>?_)⟩
  obtain⟨cap,cur,fz,_,hb,hh,_⟩:=id h
  have q':g=X:=q
  rw[q',hX] at hh
  cases hh
theorem RgbSL.put {w:World} {b X n:Nat} {O:Array Value} {a:Option Addr} {f:Nat→Rgb3} (h:RgbSL w b a n f) (hX:BoxAt w X O) (k:Nat) (v:Value):RgbSL (w.setCell ⟨X,k,none⟩ v) b a n f:=by
 rcases h with h | ⟨g,e,h⟩
 ·exact .inl h
 ·refine .inr ⟨g,e,h.keep (Below.heap_setCell _ _ _ _ fun q=>?_)⟩
  obtain⟨hb,cur,hh,_⟩:=id h
  have q':g=X:=q
  rw[q',hX] at hh
  cases hh
theorem PngSL.put {w:World} {b X:Nat} {O:Array Value} {p:Pic} {q:PicA} (h:PngSL w b p q) (hX:BoxAt w X O) (k:Nat) (v:Value):PngSL (w.setCell ⟨X,k,none⟩ v) b p q:=⟨h.t.put hX k v,h.c.put hX k v,h.s.put hX k v,h.k.put hX k v,h.ne,h.capped⟩
structure WP (w:World) (A:Array Value) (r:Pic) (q:PicA) (u:World):Prop where
 m:MoP w A u
 l:PngSL u w.heap.size r q
theorem WP.put {w u:World} {A:Array Value} {r:Pic} {q:PicA} (h:WP w A r q u) (k:Nat) (v:Value):WP w A r q (u.setCell ⟨w.heap.size+1,k,none⟩ v):=by
 obtain⟨Z,h2,_⟩:=h.m.2.1
 exact⟨h.m.put k v,PngSL.put (O:=Z) h.l h2 k v⟩
theorem WP.called {w u u':World} {A:Array Value} {r:Pic} {q:PicA} (h:WP w A r q u) (hb:Below u.heap.size u u'):WP w A r q u':=⟨h.m.called hb,h.l.called hb⟩
theorem WP.stored {w u:World} {A:Array Value} {r:Pic} {q:PicA} (h:WP w A r q u) (v0 v1 v2 v3 v4 v5 v6 v7 v8 v9 v10 v11 v12:Value):PngSL (((((((((((((u.setCell ⟨w.heap.size+1,0,none⟩ v0).setCell ⟨w.heap.size+1,1,none⟩ v1).setCell ⟨w.heap.size+1,2,none⟩ v2).setCell ⟨w.heap.size+1,3,none⟩ v3).setCell ⟨w.heap.size+1,4,none⟩ v4).setCell ⟨w.heap.size+1,5,none⟩ v5).setCell ⟨w.heap.size+1,6,none⟩ v6).setCell ⟨w.heap.size+1,7,none⟩ v7).setCell ⟨w.heap.size+1,8,none⟩ v8).setCell ⟨w.heap.size+1,9,none⟩ v9).setCell ⟨w.heap.size+1,10,none⟩ v10).setCell ⟨w.heap.size+1,11,none⟩ v11).setCell ⟨w.heap.size+1,12,none⟩ v12) w.heap.size r q∧Below w.heap.size w (((((((((((((u.setCell ⟨w.heap.size+1,0,none⟩ v0).setCell ⟨w.heap.size+1,1,none⟩ v1).setCell ⟨w.heap.size+1,2,none⟩ v2).setCell ⟨w.heap.size+1,3,none⟩ v3).setCell ⟨w.heap.size+1,4,none⟩ v4).setCell ⟨w.heap.size+1,5,none⟩ v5).setCell ⟨w.heap.size+1,6,none⟩ v6).setCell ⟨w.heap.size+1,7,none⟩ v7).setCell ⟨w.heap.size+1,8,none⟩ v8).setCell ⟨w.heap.size+1,9,none⟩ v9).setCell ⟨w.heap.size+1,10,none⟩ v10).setCell ⟨w.heap.size+1,11,none⟩ v11).setCell ⟨w.heap.size+1,12,none⟩ v12):=by
 have k:=((((((((((((h.put 0 v0).put 1 v1).put 2 v2).put 3 v3).put 4 v4).put 5 v5).put 6 v6).put 7 v7).put 8 v8).put 9 v9).put 10 v10).put 11 v11).put 12 v12
 exact⟨k.l,k.m.2.2⟩
theorem MoP.stored {w u:World} {A:Array Value} (h:MoP w A u) (v0 v1 v2 v3 v4 v5 v6 v7 v8 v9 v10 v11 v12:Value):Below w.heap.size w (((((((((((((u.setCell ⟨w.heap.size+1,0,none⟩ v0).setCell ⟨w.heap.size+1,1,none⟩ v1).setCell ⟨w.heap.size+1,2,none⟩ v2).setCell ⟨w.heap.size+1,3,none⟩ v3).setCell ⟨w.heap.size+1,4,none⟩ v4).setCell ⟨w.heap.size+1,5,none⟩ v5).setCell ⟨w.heap.size+1,6,none⟩ v6).setCell ⟨w.heap.size+1,7,none⟩ v7).setCell ⟨w.heap.size+1,8,none⟩ v8).setCell ⟨w.heap.size+1,9,none⟩ v9).setCell ⟨w.heap.size+1,10,none⟩ v10).setCell ⟨w.heap.size+1,11,none⟩ v11).setCell ⟨w.heap.size+1,12,none⟩ v12):=(((((((((((((h.put 0 v0).put 1 v1).put 2 v2).put 3 v3).put 4 v4).put 5 v5).put 6 v6).put 7 v7).put 8 v8).put 9 v9).put 10 v10).put 11 v11).put 12 v12).2.2
end
section
open Go.RowKit OutMath PutMath RastMath HeadMath ChunkMath
def chanN (c:Int):Nat:=(chan c).toNat
def pixN (p:Pic):Nat:=(p.hw * p.hh).toNat
end
section
open Go.RowKit
def tkF (n s o:Nat) (f:Nat→Int) (j:Nat):Int:=f (n * (j / o)+s+j % o)
theorem tkF_at (n s o:Nat) (f:Nat→Int) (k i:Nat) (hi:i < o):tkF n s o f (o * k+i)=f (n * k+s+i):=by
 unfold tkF
 rw[Nat.mul_add_div (by omega),Nat.div_eq_of_lt hi,Nat.mul_add_mod,Nat.mod_eq_of_lt hi,Nat.add_zero]
theorem fints_add (F:Nat→Int) (a b:Nat):fints F (a+b)=fints F a ++ fints (fun i=>F (a+i)) b:=by
 unfold fints
 rw[List.range_add,List.map_append,List.map_map]
 rfl
theorem fints_tk (n s o:Nat) (f:Nat→Int) (k:Nat):fints (tkF n s o f) (o * (k+1))=fints (tkF n s o f) (o * k) ++ fints (fun i=>f (n * k+s+i)) o:=by
 rw[Nat.mul_succ,fints_add]
 congr 1
 exact fints_congr fun i hi=>tkF_at n s o f k i hi
def covL (n:Nat) (f:Nat→Int):Nat→List Int
 | 0=>[]
 | i+1=>if i % n < n - 1 then covL n f i ++ [f i] else covL n f i
theorem covL_at (n:Nat) (hn:2≤n) (f:Nat→Int) (k:Nat):∀ j,j≤n→covL n f (n * k+j)=(List.range ((n - 1) * k+min j (n - 1))).map (tkF n 0 (n - 1) f):=by
 induction k with
 | zero=>
  intro j hj
  induction j with
  | zero=>simp [covL]
  | succ j ih=>
   have hm:(n * 0+j) % n=j:=by rw [Nat.mul_zero,Nat.zero_add]; exact Nat.mod_eq_of_lt (by omega)
   show covL n f (n * 0+j+1)=_
   unfold covL
   rw[hm,ih (by omega)]
   by_cases h:j < n - 1
   ·rw[if_pos h,show min (j+1) (n - 1)=min j (n - 1)+1 by omega,← Nat.add_assoc,List.range_succ,List.map_append]
    congr 1
    have:=tkF_at n 0 (n - 1) f 0 j h
    rw[show min j (n - 1)=j by omega]
    simp only [List.map_cons,List.map_nil]
    rw[this]
    simp
   ·rw[if_neg h,show min (j+1) (n - 1)=min j (n - 1) by omega]
 | succ k ihk=>
  intro j hj
  induction j with
  | zero=>
   have:=ihk n (Nat.le_refl _)
   rw[show n * (k+1)+0=n * k+n by rw [Nat.mul_succ,Nat.add_zero],this]
   congr 2
   rw[Nat.mul_succ]
   omega
  | succ j ih=>
   have hm:(n * (k+1)+j) % n=j:=by rw [Nat.mul_add_mod]; exact Nat.mod_eq_of_lt (by omega)
   show covL n f (n * (k+1)+j+1)=_
   unfold covL
   rw[hm,ih (by omega)]
   by_cases h:j < n - 1
   ·rw[if_pos h,show min (j+1) (n - 1)=min j (n - 1)+1 by omega,← Nat.add_assoc,List.range_succ,List.map_append]
    congr 1
    have:=tkF_at n 0 (n - 1) f (k+1) j h
    rw[show min j (n - 1)=j by omega]
    simp only [List.map_cons,List.map_nil]
    rw[this]
    simp
   ·rw[if_neg h,show min (j+1) (n - 1)=min j (n - 1) by omega]
theorem covL_whole (n:Nat) (hn:2≤n) (f:Nat→Int) (N:Nat):covL n f (n * N)=(List.range ((n - 1) * N)).map (tkF n 0 (n - 1) f):=by
 have:=covL_at n hn f N 0 (Nat.zero_le _)
 simpa using this
theorem covL_length (n:Nat) (f:Nat→Int) (i:Nat):(covL n f i).length≤i:=by
 induction i with
 | zero=>simp [covL]
 | succ i ih=>
  unfold covL
  by_cases h:i % n < n - 1
  ·rw[if_pos h]; simp; omega
  ·rw[if_neg h]; omega
end
section
open Go.RowKit OutMath PutMath RastMath HeadMath ChunkMath CrcMath
theorem png_n {p:Pic} (h:PngR p):p.sn=chanN p.hc * pixN p∧1≤pixN p∧pixN p≤576:=by
 obtain⟨⟨⟨_,_,_⟩,⟨⟨a1,a2⟩,⟨b1,b2⟩,_,hn,hS⟩,e1,e2,e3,e4⟩,_⟩:=h
 have h1:1≤p.rw * p.rh:=by
  have:=Int.mul_le_mul a1 b1 (by omega) (by omega)
  omega
 have h2:p.rw * p.rh≤24 * 24:=Int.mul_le_mul a2 b2 (by omega) (by omega)
 have h3:=chan_range p.rc
 unfold pixN chanN
 rw[← e1,← e2,← e3]
 refine⟨?_,by omega,by omega⟩
 have:((p.sn:Nat):Int)=(((chan p.rc).toNat * (p.rw * p.rh).toNat:Nat):Int):=by
  rw[hn,Int.natCast_mul,Int.toNat_of_nonneg h3.1,Int.toNat_of_nonneg (by omega),Int.mul_comm]
 exact Int.ofNat.inj this
def covO (p:Pic):Nat:=if p.hc=4 then 1 else 3
def covM (p:Pic):Int:=if p.hd=8 then 255 else 65535
def CovC (p:Pic):Prop:=(MayR p∧(p.hc=4∨p.hc=6))∧∀ k,k < pixN p→p.S ((covO p+1) * k+covO p)=covM p
def covP (p:Pic):Pic:=withP p (p.hc - 4) p.hd (covO p * pixN p) (tkF (covO p+1) 0 (covO p) p.S) 0 (fun _=>0)
theorem may_depth {p:Pic} (h:MayR p) (hc:p.hc=4∨p.hc=6):p.hd=8∨p.hd=16:=by
 have h5:=h.1.1.1.2.2
 unfold DepthR Five at h5
 omega
theorem covP_sn {p:Pic} (h:CovC p):(covP p).sn≤1048576:=by
 have h1:=(png_n h.1.1.1).2.2
 show covO p * pixN p≤1048576
 have h3:covO p≤3:=by unfold covO; split <;> omega
 have:=Nat.mul_le_mul h3 h1
 omega
end
section
open Go.RowKit
theorem in_yes (x a b:Int) (w:World) (h1:a≤x) (h2:x≤b):
  Calls Tryz.prog 115 #[.int .i64 x,.int .i64 a,.int .i64 b] w fun e w'=>e=.returned (.bool true)∧w'=w:=by
 go_enter Tryz.func115,Tryz.ntmps115
 go_wp2
 go_ret
 exact⟨rfl,rfl⟩
theorem in_no (x a b:Int) (w:World) (h:¬ (a≤x∧x≤b)):
  Calls Tryz.prog 115 #[.int .i64 x,.int .i64 a,.int .i64 b] w fun e w'=>e=.returned (.bool false)∧w'=w:=by
 by_cases h1:a≤x
 ·have h2:¬ x≤b:=fun k=>h ⟨h1,k⟩
  clear h
  go_enter Tryz.func115,Tryz.ntmps115
  go_wp2
  go_ret
  exact⟨rfl,rfl⟩
 ·clear h
  go_enter Tryz.func115,Tryz.ntmps115
  go_wp2
  go_ret
  exact⟨rfl,rfl⟩
end
end Go.Proofs.YtkpbfmdnjnohlaaGreat
