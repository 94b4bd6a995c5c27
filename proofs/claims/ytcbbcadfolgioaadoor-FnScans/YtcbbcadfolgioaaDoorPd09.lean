/-
  Texts of the proof, put together.
-/
import Derived.Test.YtcbbcadfolgioaaDoorPd08
namespace Go.Proofs.YtcbbcadfolgioaaDoor
open Go.RowKit Go.Joins TakeMath
theorem info_u812:(Tryd.prog.info? 5).map (fun i=>(i.zero,i.size,i.bytes))=some (some (.int .u8 0),1,1):=by kernel_rfl
theorem make_bytes12 (w:World) (n:Nat) (hn:n≤16777216):(Instr.makeSlice 22 (.int .i64 n) (.int .i64 n)).run Tryd.prog w=.ok (.slice (some ⟨w.heap.size,0,none⟩) n n) (w.alloc (.cells (madeCells #[Value.int .u8 0] n) 5)):=by
 obtain⟨i0,hi0,hz0,hz1,hz2⟩:=info_parts info_u812
 have h:=run_make (P:=Tryd.prog) w 22 5 i0 (.int .u8 0) Tryd.underlying22 hi0 hz0 .i64 .i64 n n (by omega) (by omega) (by rw [hz2]; omega) (by omega)
 rw[hz1,Int.toNat_natCast,Nat.mul_one] at h
 exact h
def fb8 (h:Nat→Int) (n:Nat):List Value:=(List.range n).map fun i=>.int .u8 (h i)
theorem fb8_length (h:Nat→Int) (n:Nat):(fb8 h n).length=n:=by simp [fb8]
theorem fb8_get (f:Nat→Int) (n j:Nat) (h:j < (fb8 f n).length):(fb8 f n)[j]=.int .u8 (f j):=by simp [fb8]
theorem fb8_set (f:Nat→Int) (n j:Nat) (x:Int):(fb8 f n).set j (.int .u8 x)=fb8 (upd f j x) n:=by
 refine List.ext_getElem (by simp [fb8]) fun i h1 h2=>?_
 rw[List.getElem_set,fb8_get (upd f j x)]
 by_cases hij:j=i
 ·subst hij
  rw[if_pos rfl]
  simp[upd]
 ·have hji:¬ i=j:=fun h=>hij h.symm
  rw[if_neg hij,fb8_get]
  simp[upd,hji]
def BFn (w:World) (base g n cap:Nat) (f:Nat→Int):Prop:=Own 5 w base g (.slice (some ⟨g,0,none⟩) n cap) (fb8 f n)
section
variable {w w':World} {base g n cap:Nat} {f:Nat→Int}
theorem BFn.cell (h:BFn w base g n cap f) (j:Nat) (hj:j < n):w.cell? ⟨g,j,none⟩=some (.int .u8 (f j)):=by
 have h':j < (fb8 f n).length:=by rw [fb8_length]; exact hj
 rw[Own.cell h j h',fb8_get]
theorem BFn.free (h:BFn w base g n cap f) (j:Nat) (hj:j < n):w.frozen? ⟨g,j,none⟩=false:=Own.free h j (by rw [fb8_length]; exact hj)
theorem BFn.set (h:BFn w base g n cap f) (j:Nat) (hj:j < n) (x:Int):BFn (w.setCell ⟨g,j,none⟩ (.int .u8 x)) base g n cap (upd f j x):=by
 have k:=Own.set h j (by rw [fb8_length]; exact hj) (.int .u8 x)
 rw[fb8_set] at k
 exact k
theorem BFn.made (w:World) (n:Nat) (hn:n≤maxLen) (hb:base≤w.heap.size):BFn (w.alloc (.cells (madeCells #[Value.int .u8 0] n) 5)) base w.heap.size n n (fun _=>0):=by
 refine⟨n,madeCells #[Value.int .u8 0] n,(0,0),by rw [fb8_length],hb,heap_alloc_new w _,.inl rfl,by rw [fb8_length]; exact Nat.le_refl _,hn,by simp [madeCells],?_⟩
 have e:(madeCells #[Value.int .u8 0] n).toList=fb8 (fun _=>0) n:=by
  unfold madeCells fb8
  rw[Array.toList_map,Array.toList_range]
  refine List.map_congr_left fun i _=>?_
  simp[Nat.mod_one]
 rw[e,fb8_length,List.take_of_length_le (by rw [fb8_length]; exact Nat.le_refl _)]
theorem BFn.drew (h:BFn w base g n cap f):BFn w.drew base g n cap f:=Own.drewN h 1
theorem BFn.text (h:BFn w base g n cap f) (zs:List Int) (hl:zs.length=n) (hz:∀ i,i < n→zs.getD i 0=f i):(convert 22 9 (.slice (some ⟨g,0,none⟩) n cap)).run Tryd.prog w=.ok (.string (strOfNums zs)) w:=by
 refine run_convert_bytes_arg w 22 5 Tryd.underlying22 Tryd.underlying5 g 0 _ cap zs hl (fun i hi=>?_) 9 Tryd.underlying9
 rw[Nat.zero_add,h.cell i hi,hz i hi]
end
end Go.Proofs.YtcbbcadfolgioaaDoor

namespace Go.Proofs.YtcbbcadfolgioaaDoor.TokMath
def Bytes (O:List Int):Prop:=∀ x∈O,0≤x∧x≤255
end Go.Proofs.YtcbbcadfolgioaaDoor.TokMath

namespace Go.Proofs.YtcbbcadfolgioaaDoor
open Go.RowKit Go.Joins TokMath
def bytesOf (s:ByteArray):List Int:=s.data.toList.map fun b=>(b.toNat:Int)
theorem bytesOf_length (s:ByteArray):(bytesOf s).length=s.size:=by simp [bytesOf]
end Go.Proofs.YtcbbcadfolgioaaDoor

namespace Go.Proofs.YtcbbcadfolgioaaDoor
open Go.RowKit Go.Joins TakeMath TokMath FiltMath
structure But (g:Nat) (w w':World):Prop where
 os:w'.os=w.os
 tape:w'.tape=w.tape
 output:w'.output=w.output
 size:w.heap.size≤w'.heap.size
 block:∀ k,k < w.heap.size→k≠g→w'.heap[k]?=w.heap[k]?
section
variable {g k:Nat} {w w' a b c:World}
theorem But.refl (g:Nat) (w:World):But g w w:=⟨rfl,rfl,rfl,Nat.le_refl _,fun _ _ _=>rfl⟩
theorem But.trans (h:But g a b) (k:But g b c):But g a c:=
 ⟨k.os.trans h.os,k.tape.trans h.tape,k.output.trans h.output,Nat.le_trans h.size k.size,fun i hi hg=>(k.block i (Nat.lt_of_lt_of_le hi h.size) hg).trans (h.block i hi hg)⟩
theorem But.of_below (h:Below w.heap.size w w'):But g w w':=⟨h.os,h.tape,h.output,h.size,fun i hi _=>h.block i hi⟩
theorem But.next (h:But g a b) (k:Below b.heap.size b c):But g a c:=h.trans (But.of_below k)
theorem But.set (h:But g a b) (i:Nat) (v:Value):But g a (b.setCell ⟨g,i,none⟩ v):=
 h.trans ⟨rfl,rfl,rfl,by simp [World.setCell],fun _ _ hg=>Below.heap_setCell _ _ _ _ hg⟩
theorem But.drew (h:But g a b):But g a b.drew:=⟨h.os,h.tape,h.output,h.size,h.block⟩
theorem But.below {B:Nat} {w0:World} (h:But g a b) (hb:Below B w0 a) (hg:B≤g) (hB:B≤a.heap.size):Below B w0 b:=
 ⟨h.os.trans hb.os,h.tape.trans hb.tape,h.output.trans hb.output,Nat.le_trans hb.size h.size,fun i hi=>(h.block i (by omega) (by omega)).trans (hb.block i hi)⟩
theorem But.cell (h:But g a b) (hk:k < a.heap.size) (hne:k≠g) (i:Nat):b.cell? ⟨k,i,none⟩=a.cell? ⟨k,i,none⟩:=World.cell?_of_block (w:=a) (h.block k hk hne)
theorem But.frozen (h:But g a b) (hk:k < a.heap.size) (hne:k≠g) (i:Nat):b.frozen? ⟨k,i,none⟩=a.frozen? ⟨k,i,none⟩:=World.frozen?_of_block (w:=a) (h.block k hk hne)
theorem But.own {e:TypeId} {base:Nat} {v:Value} {xs:List Value} (h:But g a b) (ho:Own e a base k v xs) (hne:k≠g):Own e b base k v xs:=ho.keep (h.block k ho.lt hne)
theorem But.came {x:Option Addr} {n:Nat} {f:Nat→Int} (h:But g a b) (hc:Came a x n f) (hne:∀ q o,x=some ⟨q,o,none⟩→n=0∨q≠g):Came b x n f:=by
 rcases hc with hc | ⟨q,off,ha,hq,hcc⟩
 ·exact .inl hc
 rcases hne q off ha with h0 | h0
 ·exact .inl h0
 ·exact .inr ⟨q,off,ha,Nat.lt_of_lt_of_le hq h.size,fun j hj=>(h.cell hq h0 _).trans (hcc j hj)⟩
end
def BAt (w:World) (g n:Nat) (f:Nat→Int):Prop:=g < w.heap.size∧∀ i,i < n→w.cell? ⟨g,i,none⟩=some (.int .u8 (f i))
section
variable {g k n cap base:Nat} {w w':World} {f:Nat→Int}
theorem BAt.called (h:BAt w k n f) (hb:Below w.heap.size w w'):BAt w' k n f:=⟨Nat.lt_of_lt_of_le h.1 hb.size,fun i hi=>((bcell hb).1 k i h.1).trans (h.2 i hi)⟩
theorem BAt.but (h:BAt w k n f) (hb:But g w w') (hne:k≠g):BAt w' k n f:=⟨Nat.lt_of_lt_of_le h.1 hb.size,fun i hi=>(hb.cell h.1 hne i).trans (h.2 i hi)⟩
theorem BAt.drew (h:BAt w k n f):BAt w.drew k n f:=h
theorem BAt.congr {f':Nat→Int} (h:BAt w k n f) (e:∀ i,i < n→f i=f' i):BAt w k n f':=⟨h.1,fun i hi=>by rw [← e i hi]; exact h.2 i hi⟩
theorem BFn.at (h:BFn w base g n cap f):BAt w g n f:=⟨Own.lt h,h.cell⟩
theorem BFn.keep (h:BFn w base g n cap f) (hk:w'.heap[g]?=w.heap[g]?):BFn w' base g n cap f:=Own.keep h hk
theorem BFn.called (h:BFn w base g n cap f) (hb:Below w.heap.size w w'):BFn w' base g n cap f:=Own.keep h (hb.block g (Own.lt h))
theorem BFn.but (h:BFn w base k n cap f) (hb:But g w w') (hne:k≠g):BFn w' base k n cap f:=hb.own h hne
theorem BFn.congr {f':Nat→Int} (h:BFn w base g n cap f) (e:∀ i,i < n→f i=f' i):BFn w base g n cap f':=by
 have:fb8 f n=fb8 f' n:=by
  unfold fb8
  refine List.map_congr_left fun i hi=>?_
  rw[e i (List.mem_range.mp hi)]
 unfold BFn at h ⊢
 rw[← this]
 exact h
theorem BFn.mono {b:Nat} (h:BFn w base g n cap f) (hb:b≤base):BFn w b g n cap f:=Own.mono h hb
theorem bts_of13 (s:ByteArray) (i:Nat) (h:i < s.size):(bytesOf s).getD i 0=bts s i:=by
 unfold bts
 rw[← byteAt_get s i h]
 have h':i < s.data.size:=h
 simp[bytesOf,List.getD_eq_getElem?_getD,Array.getElem?_eq_getElem h']
 rfl
def laidAt (f:Nat→Int) (o:Nat) (vs:List Int):Nat→Int:=fun i=>if o≤i∧i < o+vs.length then vs.getD (i - o) 0 else f i
theorem laidAt_in (f:Nat→Int) (o:Nat) (vs:List Int) (i:Nat) (h:i < vs.length):laidAt f o vs (o+i)=vs.getD i 0:=by
 unfold laidAt
 rw[if_pos ⟨by omega,by omega⟩,Nat.add_sub_cancel_left]
theorem laidAt_out (f:Nat→Int) (o:Nat) (vs:List Int) (i:Nat) (h:i < o∨o+vs.length≤i):laidAt f o vs i=f i:=by
 unfold laidAt
 rw[if_neg (by omega)]
theorem BFn.cells:∀ (vs:List Int) (o:Nat) (w:World) (f:Nat→Int),BFn w base g n cap f→o+vs.length≤n→BFn (w.setCells g o (vs.map (Value.int .u8))) base g n cap (laidAt f o vs)∧But g w (w.setCells g o (vs.map (Value.int .u8)))
 | [],o,w,f,h,_=>by
  refine⟨?_,But.refl _ _⟩
  show BFn w base g n cap _
  exact h.congr fun i _=>(laidAt_out f o [] i (by simp; omega)).symm
 | v :: r,o,w,f,h,hl=>by
  rw[List.length_cons] at hl
  obtain⟨h1,h2⟩:=BFn.cells r (o+1) (w.setCell ⟨g,o,none⟩ (.int .u8 v)) (upd f o v) (h.set o (by omega) v) (by omega)
  refine⟨?_,((But.refl g w).set o _).trans h2⟩
  show BFn ((w.setCell ⟨g,o,none⟩ (.int .u8 v)).setCells g (o+1) (r.map (Value.int .u8))) base g n cap _
  refine h1.congr fun i _=>?_
  unfold laidAt upd
  rw[List.length_cons]
  by_cases e:i=o
  ·subst e
   rw[if_neg (by omega),if_pos rfl,if_pos (by omega),Nat.sub_self]
   rfl
  ·by_cases e2:o+1≤i∧i < o+1+r.length
   ·rw[if_pos e2,if_pos (by omega),show i - o=(i - (o+1))+1 by omega]
    simp
   ·rw[if_neg e2,if_neg e,if_neg (by omega)]
theorem clear_fn (h:BFn w base g n cap f):∃ w1,(∀ ty,(Builtin.clear_ #[22] ty #[.slice (some ⟨g,0,none⟩) n cap]).run Tryd.prog w=.ok (.tuple #[]) w1)∧BFn w1 base g n cap (fun _=>0)∧But g w w1:=by
 rcases Nat.eq_zero_or_pos n with h0 | h0
 ·subst h0
  refine⟨w,fun ty=>?_,h.congr (fun i hi=>absurd hi (Nat.not_lt_zero i)),But.refl _ _⟩
  simp[Builtin.clear_,run_underlying Tryd.underlying22,Result.andThen]
 ·obtain⟨i0,hi0,hz0,-,-⟩:=info_parts info_u812
  have hl:(List.replicate n (0:Int)).length=n:=List.length_replicate
  obtain⟨h1,h2⟩:=BFn.cells (base:=base) (g:=g) (n:=n) (cap:=cap) (List.replicate n 0) 0 w f h (by rw [hl]; omega)
  have hst:=run_storeCells_cells (P:=Tryd.prog) g 0 ((List.replicate n (0:Int)).map (Value.int .u8)) 0 w (fun j hj=>by
    rw[List.length_map,hl] at hj
    rw[show 0+0+j=j by omega,h.cell j hj]
    rfl) (fun j hj=>by
    rw[List.length_map,hl] at hj
    rw[show 0+0+j=j by omega]
    exact h.free j hj) (fun v hv=>by
    obtain⟨x,-,rfl⟩:=List.mem_map.mp hv
    rfl)
  have hz:(Builtin.zeroCells (Value.int .u8 0).cells n).toList=(List.replicate n (0:Int)).map (Value.int .u8):=by
   have hc:(Value.int .u8 0).cells=#[.int .u8 0]:=rfl
   unfold Builtin.zeroCells
   rw[hc,List.map_replicate]
   refine List.ext_getElem (by simp) fun i h1 h2=>?_
   simp[Nat.mod_one]
  refine⟨_,fun ty=>?_,h1.congr (fun i hi=>?_),h2⟩
  ·obtain⟨m,rfl⟩:∃ m,n=m+1:=⟨n - 1,by omega⟩
   rw[List.map_replicate] at hst hz
   simp[Builtin.clear_,run_underlying Tryd.underlying22,zeroValue,typeInfo,hi0,hz0,hz,hst,Result.andThen]
  ·have:=laidAt_in f 0 (List.replicate n 0) i (by rw [hl]; exact hi)
   rw[Nat.zero_add] at this
   rw[this]
   simp[List.getD_eq_getElem?_getD,hi]
end
end Go.Proofs.YtcbbcadfolgioaaDoor

namespace Go.Proofs.YtcbbcadfolgioaaDoor
open Go.RowKit Go.Joins OutMath PutMath TakeMath RastMath FiltMath
theorem shift_any (j d r sh:Nat) (w:World) (hr:(j:Int) * (d:Int)=(r:Int)) (hrb:r≤20000000) (hs:r % 8+d≤8) (hsh:sh=8 - d - r % 8):
  Calls Tryd.prog 100 #[.int .i64 (j:Int),.int .i64 (d:Int)] w fun e w'=>e=.returned (.int .i64 (sh:Int))∧w'=w:=by
 have t2:(r:Int).tmod 8=(r:Int) % 8:=Int.tmod_eq_emod_of_nonneg (by omega)
 have HE:Hid ((8:Int) - (d:Int) - (r:Int) % 8=(sh:Int)):=by show _=_; omega
 have b1:(d:Int)≤8:=by omega
 clear hsh hs
 go_enter Tryd.func100,Tryd.ntmps100
 go_wp2_with fail
 go_ret
 exact⟨by rw [← HE.out]; rfl,rfl⟩
def UnpI (w w':World) (base g N cap off:Nat) (h0:Nat→Int) (s:ByteArray) (d n j:Nat):Prop:=∃ h:Nat→Int,IOwn w' base g N cap h∧(∀ i,i < j→h (off+i)=smp s d i)∧(∀ i,i < off∨off+n≤i→h i=h0 i)∧But g w w'
theorem unpI_next {w wr:World} {base g N cap off:Nat} {h0:Nat→Int} {s:ByteArray} {d n j:Nat} {x:Int} (hS:UnpI w wr base g N cap off h0 s d n j) (hj:j < n) (hN:off+n≤N) (hx:x=smp s d j):UnpI w (wr.setCell ⟨g,off+j,none⟩ (.int .i64 x)).drew base g N cap off h0 s d n (j+1):=by
 obtain⟨h,hO,hh,ho,hB⟩:=hS
 refine⟨upd h (off+j) x,(hO.set (off+j) (by omega) x).drew,fun i hi=>?_,fun i hi=>?_,(hB.set (off+j) _).drew⟩
 ·unfold upd
  by_cases e:i=j
  ·rw[if_pos (by omega),e,hx]
  ·rw[if_neg (by omega)]; exact hh i (by omega)
 ·unfold upd
  rw[if_neg (by omega)]
  exact ho i hi
def UnpackIntoPost (s:ByteArray) (n d base g N cap off:Nat) (h0:Nat→Int) (w:World) (e:Ending) (w':World):Prop:=e=.returned (.tuple #[])∧UnpI w w' base g N cap off h0 s d n n
set_option maxHeartbeats 1600000 in
theorem unpackInto_any (s:ByteArray) (n d base G N capN off cap gb cb:Nat) (h0:Nat→Int) (w:World) (hd:Five (d:Int)) (hn:n≤96) (hs:(s.size:Int)=((n:Int) * (d:Int)+7) / 8) (hO:IOwn w base G N capN h0) (hN:off+n≤N) (hA:BAt w gb s.size (bts s)) (hne:gb≠G):
  Calls Tryd.prog 89 #[.slice (some ⟨G,off,none⟩) n cap,.slice (some ⟨gb,0,none⟩) s.size cb,.int .i64 (d:Int)] w (UnpackIntoPost s n d base G N capN off h0 w):=by
 have h5:=five_range hd
 have hnd:n * d≤96 * 16:=Nat.mul_le_mul hn (by omega)
 obtain⟨q,hq⟩:∃ q,q=n * d:=⟨_,rfl⟩
 have hqi:(n:Int) * (d:Int)=(q:Int):=by rw [hq]; simp
 rw[hqi] at hs
 rw[← hq] at hnd
 have HS:=hid_of hs
 have HQ:=hid_of hq
 have HD:=hid_of hd
 have HA:=hid_of hA
 have H0:Hid (UnpI w w base G N capN off h0 s d n 0):=⟨h0,hO,fun i hi=>absurd hi (Nat.not_lt_zero i),fun _ _=>rfl,But.refl _ _⟩
 clear hs hq hd hA hO
 go_enter Tryd.func89,Tryd.ntmps89
 go_wp2_with fail
 go_loopw [9] (fun i w'=>∃ j:Nat,j≤n∧i=.int .i64 j∧Hid (UnpI w w' base G N capN off h0 s d n j)) (fun i _=>n - (intOf i).toNat)
 case atStart=>exact⟨0,Nat.zero_le _,rfl,H0⟩
 case round=>
  clear H0
  obtain⟨j,hj,rfl,hS⟩:=hrel
  by_cases hlt:j < n
  ·obtain⟨h,hO,hh,ho,hBB⟩:=hS.out
   have c1:=hO.cell (off+j) (by omega)
   have f1:=hO.free (off+j) (by omega)
   have l1:=hO.lt
   have hAr:=HA.out.but hBB hne
   have l2:gb < wr.heap.size:=hAr.1
   have HCB:Hid (∀ i,i < s.size→wr.cell? ⟨gb,i,none⟩=some (.int .u8 (bts s i))):=hAr.2
   clear hh hBB hO ho hAr
   have hjd:j * d+d≤q:=by
    have:=Nat.mul_le_mul_right d (show j+1≤n by omega)
    rw[Nat.add_mul,Nat.one_mul] at this
    rw[HQ.out]
    exact this
   by_cases h16:d=16
   ·subst h16
    obtain⟨x,hx⟩:∃ x,x=2 * j:=⟨_,rfl⟩
    have hxs:x+1 < s.size:=by
     have:=HS.out
     omega
    have hx0:x < s.size:=by omega
    have e1:(2:Int) * (j:Int)=(x:Int):=by omega
    obtain⟨B0,hB0⟩:∃ B:Nat,B=byteAt s x:=⟨_,rfl⟩
    obtain⟨B1,hB1⟩:∃ B:Nat,B=byteAt s (x+1):=⟨_,rfl⟩
    have hl0:B0 < 256:=by rw [hB0,← byteAt_get s x hx0]; exact UInt8.toNat_lt _
    have hl1:B1 < 256:=by rw [hB1,← byteAt_get s (x+1) hxs]; exact UInt8.toNat_lt _
    have HV:Hid (bits .or .i64 ((B0:Int) * 256) (B1:Int)=smp s 16 j):=by
     show _=_
     rw[or_two _ _ (by omega) (by omega) (by omega) (by omega),smp_two,← hx,hB0,hB1]
    have b0:wr.cell? ⟨gb,x,none⟩=some (.int .u8 (B0:Int)):=by rw [HCB.out x hx0,hB0]; rfl
    have b1:wr.cell? ⟨gb,x+1,none⟩=some (.int .u8 (B1:Int)):=by rw [HCB.out (x+1) hxs,hB1]; rfl
    have HN:=fun z hz=>hid_of (unpI_next (x:=z) hS.out hlt hN hz)
    have w1:IntKind.i64.wrap ((x:Int))=(x:Int):=by rw [IntKind.wrap_i64]; omega
    have w2:IntKind.i64.wrap ((x:Int)+1)=(x:Int)+1:=by rw [IntKind.wrap_i64]; omega
    have w4:IntKind.i64.wrap ((B0:Int))=(B0:Int):=by rw [IntKind.wrap_i64]; omega
    have w5:IntKind.i64.wrap ((B1:Int))=(B1:Int):=by rw [IntKind.wrap_i64]; omega
    have w6:IntKind.i64.wrap ((B0:Int) * 256)=(B0:Int) * 256:=by rw [IntKind.wrap_i64]; omega
    have xi0:(x:Int) < (s.size:Int):=by omega
    have xi1:(x:Int)+1 < (s.size:Int):=by omega
    have HX:=hid_of hx
    clear hx hB0 hB1
    go_wp2_with fail
    go_region
    go_wp2_with fail
    go_roundw
    case rel=>exact⟨j+1,by omega,by go_num,HN _ HV.out⟩
    case measure=>simp [intOf]; omega
   ·have hpl:=five_place HD.out h16 j
    have hd8:d≤8:=by omega
    obtain⟨r,hr⟩:∃ r,r=j * d:=⟨_,rfl⟩
    have hri:(j:Int) * (d:Int)=(r:Int):=by rw [hr]; simp
    rw[← hr] at hjd hpl
    obtain⟨sh,hsh⟩:∃ sh,sh=8 - d - r % 8:=⟨_,rfl⟩
    have hsf:=fun W=>shift_any j d r sh W hri (by omega) hpl hsh
    obtain⟨x,hx⟩:∃ x,x=r / 8:=⟨_,rfl⟩
    have hx0:x < s.size:=by
     have:=HS.out
     omega
    obtain⟨B,hB⟩:∃ B:Nat,B=byteAt s x:=⟨_,rfl⟩
    have hl0:B < 256:=by rw [hB,← byteAt_get s x hx0]; exact UInt8.toNat_lt _
    have b0:wr.cell? ⟨gb,x,none⟩=some (.int .u8 (B:Int)):=by rw [HCB.out x hx0,hB]; rfl
    obtain⟨C,hC⟩:∃ C:Int,C=(B:Int) / 2 ^ sh:=⟨_,rfl⟩
    have hCb:0≤C∧C≤B:=by rw [hC]; exact div_bd B (p2 sh) (p2_pos sh)
    obtain⟨M,hM⟩:∃ M:Int,M=2 ^ d:=⟨_,rfl⟩
    have hMb:1≤M∧M≤65536:=by
     have h1:=p2_pos d
     have h2:=p2_le (show d≤16 by omega)
     rw[show p2 16=65536 by decide +kernel] at h2
     rw[hM]
     exact⟨h1,h2⟩
    have HV:Hid (bits .and .i64 C (M - 1)=smp s d j):=by
     show _=_
     rw[smp_small s d j (by rw [← hr]; exact hpl),← hr,← hx,← hsh,← hB,hM]
     rw[show (2:Int) ^ d=p2 d from rfl,and_mask C d hCb.1 (by omega) (by omega),hC]
     rfl
    have HN:=fun z hz=>hid_of (unpI_next (x:=z) hS.out hlt hN hz)
    have t1:(r:Int).tdiv 8=(x:Int):=by
     rw[Int.tdiv_eq_ediv_of_nonneg (by omega)]
     omega
    have w1:IntKind.i64.wrap ((x:Int))=(x:Int):=by rw [IntKind.wrap_i64]; omega
    have w2:IntKind.i64.wrap ((r:Int))=(r:Int):=by rw [IntKind.wrap_i64]; omega
    have w4:IntKind.i64.wrap ((B:Int))=(B:Int):=by rw [IntKind.wrap_i64]; omega
    have w5:IntKind.i64.wrap C=C:=by rw [IntKind.wrap_i64]; omega
    have w6:IntKind.i64.wrap M=M:=by rw [IntKind.wrap_i64]; omega
    have w7:IntKind.i64.wrap (M - 1)=M - 1:=by rw [IntKind.wrap_i64]; omega
    have xi0:(x:Int) < (s.size:Int):=by omega
    have r1:=hC.symm
    have r2:=hM.symm
    have m64:min sh 64=sh:=by omega
    have d16:((d:Int) == 16)=false:=beq_no1 (by omega)
    have HR:=hid_of hr
    have HSH:=hid_of hsh
    clear hx hB hC hM hr hsh hpl
    go_wp2_with fail
    go_region_with (go_at_call 100; refine (hsf _).mono ?_; rintro e w' ⟨rfl,rfl⟩)
    all_goals
     go_wp2_with fail
     go_roundw
     case rel=>exact⟨j+1,by omega,by go_num,HN _ HV.out⟩
     case measure=>simp [intOf]; omega
  ·obtain rfl:j=n:=by omega
   go_wp2_with fail
   go_end0
   exact⟨rfl,hS.out⟩
end Go.Proofs.YtcbbcadfolgioaaDoor

namespace Go.Proofs.YtcbbcadfolgioaaDoor
open Go.RowKit Go.Joins OutMath PutMath TakeMath RastMath
def SamPost (f:Nat→Int) (n d:Nat) (w:World) (e:Ending) (w':World):Prop:=∃ b,e=.returned (.bool b)∧(b=true↔Fit12 f n d)∧w'=w
set_option maxHeartbeats 800000 in
theorem samples_any (a:Option Addr) (n cap d:Nat) (f:Nat→Int) (w:World) (hC:Came w a n f) (hn:n≤1048576) (hd:d≤16):
  Calls Tryd.prog 77 #[.slice a n cap,.int .i64 (d:Int)] w (SamPost f n d w):=by
 have HC:=hid_of hC
 obtain⟨M,hM⟩:∃ M:Int,M=2 ^ d:=⟨_,rfl⟩
 have hMb:1≤M∧M≤65536:=by
  have h1:=p2_pos d
  have h2:=p2_le hd
  rw[show p2 16=65536 by decide +kernel] at h2
  rw[hM]
  exact⟨h1,h2⟩
 have HM:Hid (M=p2 d):=hM
 have r2:=hM.symm
 have w6:IntKind.i64.wrap M=M:=by rw [IntKind.wrap_i64]; omega
 have m64:min d 64=d:=by omega
 clear hC hM
 go_enter Tryd.func77,Tryd.ntmps77
 go_wp2_with fail
 go_loop [9] (fun i=>∃ j:Nat,j≤n∧i=.int .i64 j∧Hid (Fit12 f j d)) (fun i=>n - (intOf i).toNat)
 case atStart=>exact⟨0,Nat.zero_le _,rfl,fun i hi=>absurd hi (Nat.not_lt_zero i)⟩
 case round=>
  obtain⟨j,hj,rfl,hok⟩:=hrel
  by_cases hlt:j < n
  ·rcases HC.out with h0 | ⟨g,off,rfl,hg,hc⟩
   ·omega
   ·have c0:=hc j hlt
    clear hc
    by_cases hin:0≤f j∧f j < M
    ·have HK:Hid (Fit12 f (j+1) d):=hok.out.next hin.1 (by rw [← HM.out]; exact hin.2)
     have d0:decide (f j < 0)=false:=decide_eq_false (by omega)
     have d1:(f j / M != 0)=false:=by
      rw[Int.ediv_eq_zero_of_lt hin.1 hin.2]
      rfl
     clear hin
     go_wp2_with fail
     go_round
     case rel=>exact⟨j+1,by omega,by go_num,HK⟩
     case measure=>simp [intOf]; omega
    ·have HN:Hid (¬ Fit12 f n d):=fun h=>hin (by have:=h j hlt; rw [← HM.out] at this; exact this)
     by_cases h0:f j < 0
     ·have d0:decide (f j < 0)=true:=decide_eq_true h0
      clear hin
      go_wp2_with fail
      go_ret
      exact⟨false,rfl,by simp [HN.out],rfl⟩
     ·have d0:decide (f j < 0)=false:=decide_eq_false h0
      have d1:(f j / M != 0)=true:=by
       have:1≤f j / M:=(Int.le_ediv_iff_mul_le (by omega)).mpr (by omega)
       simp only [bne_iff_ne,ne_eq]
       omega
      clear hin
      go_wp2_with fail
      go_ret
      exact⟨false,rfl,by simp [HN.out],rfl⟩
  ·obtain rfl:j=n:=by omega
   go_wp2_with fail
   go_ret
   exact⟨true,rfl,by simp [hok.out],rfl⟩
end Go.Proofs.YtcbbcadfolgioaaDoor
