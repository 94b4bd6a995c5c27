/-
  Texts of the proof, put together.
-/
import Derived.Test.YtklpiihnbokkkaaGreatDoorRows
import Derived.Lib.SmallJoins
import Derived.WalkLawsBesides
import Derived.BigQuiet
namespace Go.Proofs.YtklpiihnbokkkaaGreatDoor
open Go.RowKit Go.Joins
def IsRow (k:IntKind) (w:World) (a:Option Addr) (len cap:Nat) (zs:List Int):Prop:=
 (a=none∧len=0∧cap=0∧zs=[])∨
 ∃ x,a=some x∧len≤cap∧cap≤maxLen∧zs.length=cap∧(∀ i,i < zs.length→w.cell? (x.add i)=some (.int k (zs.getD i 0)))∧∀ n∈zs,(Lit.int k n).wf=true
def CodeAt (w:World) (base:Nat) (a:Option Addr) (len:Nat):Prop:=
 len=0∨∃ bc off,a=some ⟨bc,off,none⟩∧bc < base∧∀ j,j < len→∃ x:Int,w.cell? ⟨bc,off+j,none⟩=some (.int .u8 x)∧0≤x∧x≤255
theorem CodeAt.below {w w':World} {base:Nat} {a:Option Addr} {len:Nat} (h:CodeAt w base a len) (hb:Below base w w'):CodeAt w' base a len:=by
 rcases h with h | ⟨bc,off,ha,hlt,hc⟩
 ·exact .inl h
 ·refine .inr ⟨bc,off,ha,hlt,fun j hj=>?_⟩
  obtain⟨x,h1,h2⟩:=hc j hj
  exact⟨x,(hb.cell (p:=⟨bc,off+j,none⟩) hlt).trans h1,h2⟩
theorem codeAt_of_row {w:World} {a:Option Addr} {len cap:Nat} {zs:List Int} (h:IsRow .u8 w a len cap zs):CodeAt w w.heap.size a len∧len≤cap∧cap≤maxLen:=by
 rcases h with ⟨_,rfl,rfl,_⟩ | ⟨x,rfl,hl,hm,hz,hc,hw⟩
 ·exact⟨.inl rfl,Nat.le_refl _,Nat.zero_le _⟩
 ·refine⟨?_,hl,hm⟩
  rcases Nat.eq_zero_or_pos len with h0 | h0
  ·exact .inl h0
  ·right
   obtain⟨b,off,spot⟩:=x
   have h1:=hc 0 (by omega)
   have hspot:spot=none:=by simpa [Addr.add] using World.cell?_spot h1
   subst hspot
   have hadd:∀ j,(⟨b,off,none⟩:Addr).add j=⟨b,off+j,none⟩:=fun j=>Addr.add_lit _ _ _
   refine⟨b,off,rfl,?_,fun j hj=>?_⟩
   ·rw[hadd] at h1
    exact World.block_lt_of_cell? w _ h1
   ·have h2:=hc j (by omega)
    rw[hadd] at h2
    have hmem:zs.getD j 0∈zs:=by
     rw[List.getD_eq_getElem?_getD,List.getElem?_eq_getElem (by omega)]
     exact List.getElem_mem _
    have h3:=hw _ hmem
    obtain⟨h4,h5⟩:=bounds_u8 h3
    exact⟨_,h2,h4,by omega⟩
end Go.Proofs.YtklpiihnbokkkaaGreatDoor

namespace Go.Proofs.YtklpiihnbokkkaaGreatDoor
open Go.RowKit Go.Joins
theorem of_laid:laidOutB Tryz.prog=true:=by kernel_rfl
theorem bnext {a b c:World} (h:Below a.heap.size a b) (k:Below b.heap.size b c):Below a.heap.size a c:=h.trans (k.mono h.size)
theorem bal {a b:World} (h:Below a.heap.size a b) (o:Obj):Below a.heap.size a (b.alloc o):=h.alloc h.size o
theorem bstart (a:World) (o:Obj):Below a.heap.size a (a.alloc o):=(Below.refl _ _).alloc (Nat.le_refl _) o
theorem bdraws {a b:World} (h:Below a.heap.size a b) (n:Nat):Below a.heap.size a (b.drewN n):=h.trans ⟨rfl,rfl,rfl,Nat.le_refl _,fun _ _=>rfl⟩
theorem hid_of {p:Prop} (h:p):Hid p:=h
theorem grow_cell {w:World} (o:Obj) {b:Nat} (h:b < w.heap.size) (i:Nat):(w.alloc o).cell? ⟨b,i,none⟩=w.cell? ⟨b,i,none⟩:=(bstart w o).cell (p:=⟨b,i,none⟩) h
theorem two_set {w:World} {b:Nat} {u0 u1:Value} {y:TypeId} (h:w.heap[b]?=some (.cells #[u0,u1] y (0,0))) (v0 v1:Value):((w.setCell ⟨b,0,none⟩ v0).setCell ⟨b,1,none⟩ v1).heap[b]?=some (.cells #[v0,v1] y (0,0)):=by
 have h0:=block_setCell (i:=0) h v0
 have h1:=block_setCell (i:=1) h0 v1
 simpa using h1
theorem two_below {B b:Nat} {w w':World} (h:Below B w w') (hb:B≤b) (v0 v1:Value):Below B w ((w'.setCell ⟨b,0,none⟩ v0).setCell ⟨b,1,none⟩ v1):=
 Below.setCell (p:=⟨b,1,none⟩) (Below.setCell (p:=⟨b,0,none⟩) h hb _) hb _
theorem block_lt {w:World} {b:Nat} {o:Obj} (h:w.heap[b]?=some o):b < w.heap.size:=by
 rcases Nat.lt_or_ge b w.heap.size with k | k
 ·exact k
 ·rw[Array.getElem?_eq_none k] at h; cases h
end Go.Proofs.YtklpiihnbokkkaaGreatDoor

namespace Go.Proofs.YtklpiihnbokkkaaGreatDoor
open Go.RowKit Go.Joins
def Own (e:TypeId) (w:World) (base g:Nat) (v:Value) (xs:List Value):Prop:=
 ∃ cap cur fz,v=.slice (some ⟨g,0,none⟩) xs.length cap∧base≤g∧w.heap[g]?=some (.cells cur e fz)∧(fz.2=0∨cap≤fz.1)∧xs.length≤cap∧cap≤maxLen∧cur.size=cap∧cur.toList.take xs.length=xs
section
variable {e:TypeId} {w w':World} {base g:Nat} {v:Value} {xs:List Value}
theorem Own.form (h:Own e w base g v xs):∃ cap,v=.slice (some ⟨g,0,none⟩) xs.length cap:=by
 obtain⟨cap,cur,fz,hv,_⟩:=h
 exact⟨cap,hv⟩
theorem Own.base_le (h:Own e w base g v xs):base≤g:=by
 obtain⟨cap,cur,fz,_,hb,_⟩:=h
 exact hb
theorem Own.lt (h:Own e w base g v xs):g < w.heap.size:=by
 obtain⟨cap,cur,fz,_,_,hg,_⟩:=h
 rcases Nat.lt_or_ge g w.heap.size with k | k
 ·exact k
 ·rw[Array.getElem?_eq_none k] at hg; cases hg
theorem Own.keep (h:Own e w base g v xs) (hk:w'.heap[g]?=w.heap[g]?):Own e w' base g v xs:=by
 obtain⟨cap,cur,fz,h1,h2,h3,h4⟩:=h
 exact⟨cap,cur,fz,h1,h2,hk.trans h3,h4⟩
theorem Own.alloc (h:Own e w base g v xs) (o:Obj):Own e (w.alloc o) base g v xs:=h.keep (Below.heap_alloc w o g h.lt)
theorem Own.drewN (h:Own e w base g v xs) (n:Nat):Own e (w.drewN n) base g v xs:=h.keep rfl
theorem Own.below {B:Nat} (h:Own e w base g v xs) (hb:Below B w w') (hg:g < B):Own e w' base g v xs:=h.keep (hb.block g hg)
theorem Own.mono {b:Nat} (h:Own e w base g v xs) (hb:b≤base):Own e w b g v xs:=by
 obtain⟨cap,cur,fz,h1,h2,h3⟩:=h
 exact⟨cap,cur,fz,h1,Nat.le_trans hb h2,h3⟩
theorem Own.cell (h:Own e w base g v xs) (j:Nat) (hj:j < xs.length):w.cell? ⟨g,j,none⟩=some xs[j]:=by
 obtain⟨cap,cur,fz,_,_,hg,_,_,_,_,ht⟩:=h
 have e1:w.cell? ⟨g,j,none⟩=cur[j]?:=cell_of_block hg j
 rw[e1]
 have e2:(cur.toList.take xs.length)[j]?=cur[j]?:=by
  rw[List.getElem?_take,if_pos hj]
  simp
 rw[← e2,ht,List.getElem?_eq_getElem hj]
theorem Own.free (h:Own e w base g v xs) (j:Nat) (hj:j < xs.length):w.frozen? ⟨g,j,none⟩=false:=by
 obtain⟨cap,cur,fz,_,_,hg,hf,hn,_⟩:=h
 obtain⟨lo,hi⟩:=fz
 simp only [World.frozen?,hg]
 simp only at hf
 rw[Bool.and_eq_false_iff]
 rcases hf with hf | hf
 ·right; simp; omega
 ·left; simp; omega
theorem Own.set (h:Own e w base g v xs) (j:Nat) (_hj:j < xs.length) (u:Value):Own e (w.setCell ⟨g,j,none⟩ u) base g v (xs.set j u):=by
 obtain⟨cap,cur,fz,h1,h2,hg,h4,h5,h6,h7,ht⟩:=h
 refine⟨cap,cur.setIfInBounds j u,fz,?_,h2,block_setCell (i:=j) hg u,h4,?_,h6,?_,?_⟩
 ·rw[List.length_set]; exact h1
 ·rw[List.length_set]; exact h5
 ·simpa using h7
 ·rw[List.length_set,Array.toList_setIfInBounds,List.take_set,ht]
theorem own_of_ownsRow {n:Nat} {b:Nat} (h:w.ownsRow b e 1 v n xs) (hn:0 < n):∃ g,b≤g∧Own e w b g v xs:=by
 obtain⟨hl,hh⟩:=h
 have hl':xs.length=n:=by simpa using hl
 rcases hh with ⟨_,h0⟩ | ⟨g,cap,cur,hv,hb,hg,hnc,hcm,hcs,ht⟩
 ·omega
 ·refine⟨g,hb,cap,cur,(0,0),by rw [hl']; exact hv,hb,hg,.inl rfl,by omega,hcm,by simpa using hcs,?_⟩
  rw[hl']; simpa using ht
theorem own_of_bytes (w:World) (e:TypeId) (s:ByteArray) (hs:s.size≤maxLen) (hb:base≤w.heap.size):
  Own e (w.drew.alloc (.cells (bytesRow s (grownCap w s.size 0 e)) e ((bytesRow s (grownCap w s.size 0 e)).size,(bytesRow s (grownCap w s.size 0 e)).size+1))) base w.heap.size (.slice (some ⟨w.heap.size,0,none⟩) s.size (grownCap w s.size 0 e)) (s.data.toList.map fun b=>.int .u8 b.toNat):=by
 have hl:(s.data.toList.map fun b=>Value.int .u8 (b.toNat:Int)).length=s.size:=by simp
 have hsz:(bytesRow s (grownCap w s.size 0 e)).size=grownCap w s.size 0 e:=by
  have:=grownCap_ge w s.size 0 e
  simp[bytesRow]
  omega
 refine⟨grownCap w s.size 0 e,_,_,by rw [hl],hb,heap_alloc_new w.drew _,.inr (by rw [hsz]; exact Nat.le_refl _),by rw [hl]; exact grownCap_ge w s.size 0 e,grownCap_le_maxLen w s.size 0 e hs,hsz,?_⟩
 rw[hl]
 unfold bytesRow
 rw[Array.toList_append,List.take_append_of_le_length (by simp)]
 rw[List.take_of_length_le (by simp)]
 simp
variable {P:Program}
theorem run_append1 (t ty:TypeId) (i:TypeInfo) (z:Value) (bytes:Nat) (ht:P.underlying t=some (.slice e)) (hi:P.info? e=some i) (hz:i.zero=some z) (hs1:i.size=1) (hby:i.bytes=bytes) (hzs:z.cells.size=1)
  (h:Own e w base g v xs) (ad:Addr) (c:Nat) (x:Value) (hx:w.cell? ad=some x) (hspot:ad.spot=none) (h1:x.oneCell'=true) (h63:xs.length+1≤maxLen) (hbytes:(xs.length+1) * bytes≤140737488355328):
  ∃ g' v' w',(Builtin.append_ #[t,t] ty #[v,.slice (some ad) 1 c]).run P w=.ok v' w'∧Own e w' base g' v' (xs ++ [x])∧(g'=g∨w.heap.size≤g')∧w.grownBy w' (some g):=by
 have hlt:=h.lt
 obtain⟨cap,cur,fz,hv,hb,hg,hf,hn,hcm,hcs,htk⟩:=id h
 have hnews:∀ (j:Nat) (u:Value),[x][j]?=some u→w.cell? (ad.add j)=some u:=by
  intro j u hj
  match j,hj with
  | 0,hj=>
   simp at hj
   subst hj
   obtain⟨ab,ao,asp⟩:=ad
   simp only at hspot
   subst hspot
   simpa [Addr.add] using hx
 subst hv
 by_cases hroom:xs.length+1≤cap
 ·have hc:∀ j,j < [x].length→(w.cell? ⟨g,0+xs.length * i.size+j,none⟩).isSome=true:=by
   intro j hj
   have:j=0:=by simpa using hj
   subst this
   rw[hs1,show 0+xs.length * 1+0=xs.length by omega,cell_of_block hg,Array.getElem?_eq_getElem (by omega)]
   rfl
  have hfz:∀ j,j < [x].length→w.frozen? ⟨g,0+xs.length * i.size+j,none⟩=false:=by
   intro j hj
   have:j=0:=by simpa using hj
   subst this
   rw[hs1,show 0+xs.length * 1+0=xs.length by omega]
   obtain⟨lo,hi'⟩:=fz
   simp only [World.frozen?,hg]
   simp only at hf
   rw[Bool.and_eq_false_iff]
   rcases hf with hf | hf
   ·right; simp; omega
   ·left; simp; omega
  have hr:=run_append_room_cells (P:=P) w t ty e i ht hi g 0 xs.length cap ad 1 c [x] (by simp [hs1]) hnews (by simpa using h1) hroom hc hfz
  rw[hs1,show 0+xs.length * 1=xs.length by omega] at hr
  refine⟨g,_,_,hr,?_,.inl rfl,?_⟩
  ·show Own e (w.setCell ⟨g,xs.length,none⟩ x) base g _ _
   refine⟨cap,cur.setIfInBounds xs.length x,fz,by simp,hb,block_setCell (i:=xs.length) hg x,hf,by simpa using hroom,hcm,by simpa using hcs,?_⟩
   rw[Array.toList_setIfInBounds]
   rw[List.length_append,List.length_singleton]
   have hlen:xs.length < cur.toList.length:=by simp; omega
   rw[List.take_succ_eq_append_getElem (by simpa using hlen)]
   rw[List.take_set,List.getElem_set_self]
   rw[htk,List.set_eq_of_length_le (by omega)]
  ·show w.grownBy (w.setCell ⟨g,xs.length,none⟩ x) (some g)
   refine⟨rfl,rfl,rfl,by simp,fun k hk hne=>?_⟩
   exact Below.heap_setCell w _ _ k (by simpa using hne)
 ·obtain⟨v',w',hrun,r1,r2⟩:=run_append_arg_grows (P:=P) w t ty e i z 1 bytes ht hi hz hs1 hby hzs (by decide) ⟨g,0,none⟩ xs.length cap xs (by simp) (fun j u hj=>by
   have hj':j < xs.length:=by
    rcases Nat.lt_or_ge j xs.length with k | k
    ·exact k
    ·rw[List.getElem?_eq_none k] at hj; cases hj
   rw[List.getElem?_eq_getElem hj'] at hj
   have:=h.cell j hj'
   rw[Addr.add_lit,Nat.zero_add,this,hj]) ad 1 c [x] (by simp) hnews (by omega) h63 hbytes
  obtain⟨g',hg',ho⟩:=own_of_ownsRow r1 (by omega)
  refine⟨g',v',w',hrun,ho.mono ?_,.inr hg',?_⟩
  ·omega
  ·obtain⟨a1,a2,a3,a4,a5⟩:=r2
   exact⟨a1,a2,a3,a4,fun k hk _=>a5 k hk (by simp)⟩
theorem wpList_append1 {ops:Array Oper} {rest:List Oper} {o:Oper} {a:Act} {Q:Exit→Act→World→Prop} (hgd:o.guard=none) (s y:Operand) (t:TypeId)
  (hop:o.op=.call { callee:=.builtin .append,args:=#[s,y],argTypes:=#[t,t] })
  (i:TypeInfo) (z:Value) (bytes:Nat) (ht:P.underlying t=some (.slice e)) (hi:P.info? e=some i) (hz:i.zero=some z) (hs1:i.size=1) (hby:i.bytes=bytes) (hzs:z.cells.size=1)
  (hs:a.eval s=v) (h:Own e w base g v xs) (ad:Addr) (c:Nat) (x:Value) (hy:a.eval y=.slice (some ad) 1 c) (hx:w.cell? ad=some x) (hspot:ad.spot=none) (h1:x.oneCell'=true) (h63:xs.length+1≤maxLen) (hbytes:(xs.length+1) * bytes≤140737488355328)
  (hK:∀ g' v' w',Own e w' base g' v' (xs ++ [x])→(g'=g∨w.heap.size≤g')→w.grownBy w' (some g)→wpList P ops Q rest (a.put o.dst v') w'):wpList P ops Q (o :: rest) a w:=by
 refine wpList_plain hgd fun K hK'=>?_
 obtain⟨g',v',w',hrun,r1,r2,r3⟩:=run_append1 (P:=P) t o.type i z bytes ht hi hz hs1 hby hzs h ad c x hx hspot h1 h63 hbytes
 unfold Oper.wp
 simp[execOp,hop,resolve,invoke,builtin,hs,hy,hrun,Result.andThen]
 exact hK' _ _ (hK g' v' w' r1 r2 r3)
theorem own_string (zs:List Int) (src dst:TypeId) (hsrc:P.underlying src=some (.slice e)) (he:P.underlying e=some (.int .u8)) (hd:P.underlying dst=some .string) (h:Own e w base g v (zs.map (Value.int .u8))):
  (convert src dst v).run P w=.ok (.string (strOfNums zs)) w:=by
 obtain⟨cap,hv⟩:=h.form
 subst hv
 refine run_convert_bytes_arg w src e hsrc he g 0 _ cap zs (by simp) (fun i hi=>?_) dst hd
 have hc:=h.cell i (by simpa using hi)
 have hi':i < zs.length:=by simpa using hi
 rw[Nat.zero_add,hc]
 simp[hi']
end
end Go.Proofs.YtklpiihnbokkkaaGreatDoor

namespace Go.Proofs.YtklpiihnbokkkaaGreatDoor
open Go.RowKit Go.Joins
def Cur (w:World) (base b:Nat):Prop:=
 ∃ a len cap i h,w.heap[b]?=some (.cells #[.slice a len cap,.int .i64 i,.int .i64 h] 83 (0,0))∧base≤b∧0≤i∧i≤len∧len≤1048576∧CodeAt w base a len
theorem Cur.lt {w:World} {base b:Nat} (h:Cur w base b):b < w.heap.size:=by
 obtain⟨a,len,cap,i,h,hb,_⟩:=h
 rcases Nat.lt_or_ge b w.heap.size with k | k
 ·exact k
 ·rw[Array.getElem?_eq_none k] at hb; cases hb
theorem Cur.base_le {w:World} {base b:Nat} (h:Cur w base b):base≤b:=by
 obtain⟨a,len,cap,i,h,_,hb,_⟩:=h
 exact hb
theorem Cur.keep {w w':World} {base b:Nat} (h:Cur w base b) (hk:w'.heap[b]?=w.heap[b]?) (hb:Below base w w'):Cur w' base b:=by
 obtain⟨a,len,cap,i,h,h1,h2,h3,h4,h5,h6⟩:=h
 exact⟨a,len,cap,i,h,hk.trans h1,h2,h3,h4,h5,h6.below hb⟩
theorem Cur.alloc {w:World} {base b:Nat} (h:Cur w base b) (o:Obj):Cur (w.alloc o) base b:=
 h.keep (Below.heap_alloc w o b h.lt) ((Below.refl _ _).alloc (by have:=h.lt; have:=h.base_le; omega) o)
theorem Cur.setCell {w:World} {base b:Nat} (h:Cur w base b) (p:Addr) (v:Value) (hne:p.block≠b) (hp:base≤p.block):Cur (w.setCell p v) base b:=
 h.keep (Below.heap_setCell w p v b (Ne.symm hne)) ((Below.refl _ _).setCell hp v)
theorem Cur.grown {w w':World} {base b:Nat} {row:Option Nat} (h:Cur w base b) (hg:w.grownBy w' row) (hne:row≠some b) (hr:∀ k,row=some k→base≤k):Cur w' base b:=
 h.keep (hg.block b h.lt (Ne.symm hne)) ((Below.refl _ _).grown hg (by have:=h.lt; have:=h.base_le; omega) hr)
theorem grown_refl (w:World) (row:Option Nat):w.grownBy w row:=⟨rfl,rfl,rfl,Nat.le_refl _,fun _ _ _=>rfl⟩
theorem grown_trans {a b c:World} {row:Option Nat} (h:a.grownBy b row) (k:b.grownBy c row):a.grownBy c row:=
 ⟨k.os.trans h.os,k.tape.trans h.tape,k.output.trans h.output,Nat.le_trans h.size k.size,fun i hi hne=>(k.block i (Nat.lt_of_lt_of_le hi h.size) hne).trans (h.block i hi hne)⟩
theorem grown_drewN {a b:World} {row:Option Nat} (h:a.grownBy b row) (n:Nat):a.grownBy (b.drewN n) row:=⟨h.os,h.tape,h.output,h.size,h.block⟩
theorem grown_set {a b:World} {g:Nat} (h:a.grownBy b (some g)) (i:Nat) (v:Value):a.grownBy (b.setCell ⟨g,i,none⟩ v) (some g):=
 ⟨h.os,h.tape,h.output,by simpa using h.size,fun k hk hne=>(Below.heap_setCell b _ v k (by simpa using hne)).trans (h.block k hk hne)⟩
theorem below_of_grown {w w':World} {base b:Nat} (h:w.grownBy w' (some b)) (h1:base≤b) (h2:b < w.heap.size):Below base w w':=
 (Below.refl _ _).grown h (by omega) (fun k hk=>by cases hk; exact h1)
theorem Cur.drew {w:World} {base b:Nat} (h:Cur w base b):Cur w.drew base b:=h.keep rfl ⟨rfl,rfl,rfl,Nat.le_refl _,fun _ _=>rfl⟩
theorem and255 (x:Int):0≤bits .and .i64 x 255∧bits .and .i64 x 255≤255:=by
 have h2:(BitVec.ofInt 64 (255:Int)).toNat=255:=by decide
 have e:bits .and .i64 x 255=IntKind.i64.wrap ((BitVec.ofInt 64 x &&& BitVec.ofInt 64 (255:Int)).toNat:Int):=rfl
 rw[e,BitVec.toNat_and,h2,IntKind.wrap_i64]
 have:(BitVec.ofInt 64 x).toNat &&& 255≤255:=Nat.and_le_right
 omega
section
variable {w:World} {base b:Nat} {a:Option Addr} {len cap:Nat} {i h:Int}
theorem cur_next {n:Nat} (hb:w.heap[b]?=some (.cells #[.slice a len cap,.int .i64 n,.int .i64 h] 83 (0,0))) (hk:CodeAt w base a len) (hbase:base≤b) (hn:n+1≤len) (hlen:len≤1048576) (z:Int) (q:Nat):
  Cur (((w.setCell ⟨b,2,none⟩ (.int .i64 z)).drewN q).setCell ⟨b,1,none⟩ (.int .i64 ((n:Int)+1))) base b:=by
 have h1:=block_setCell (i:=2) hb (.int .i64 z)
 have h2:=block_setCell (w:=(w.setCell ⟨b,2,none⟩ (.int .i64 z)).drewN q) (i:=1) h1 (.int .i64 ((n:Int)+1))
 refine⟨a,len,cap,(n:Int)+1,z,?_,hbase,by omega,by omega,hlen,?_⟩
 ·simp at h2
  exact h2
 ·exact hk.below ((((Below.refl base w).setCell (p:=⟨b,2,none⟩) hbase _).trans (below_draws _ _ _)).setCell hbase _)
theorem cur_stay (hb:w.heap[b]?=some (.cells #[.slice a len cap,.int .i64 i,.int .i64 h] 83 (0,0))) (hk:CodeAt w base a len) (hbase:base≤b) (h0:0≤i) (hi:i≤len) (hlen:len≤1048576) (z:Int) (q q':Nat):
  Cur (((w.setCell ⟨b,2,none⟩ (.int .i64 z)).drewN q).drewN q') base b:=by
 have h1:=block_setCell (i:=2) hb (.int .i64 z)
 refine⟨a,len,cap,i,z,?_,hbase,h0,hi,hlen,?_⟩
 ·simp at h1
  exact h1
 ·exact hk.below (((Below.refl base w).setCell (p:=⟨b,2,none⟩) hbase _).trans ((below_draws _ _ _).trans (below_draws _ _ _)))
end
set_option maxHeartbeats 800000 in
theorem draw_byte (base b:Nat) (w:World) (hC:Cur w base b):
  Calls Tryz.prog 19 #[.pointer (some ⟨b,0,none⟩)] w fun e w'=>∃ x:Int,e=.returned (.int .i64 x)∧0≤x∧x≤255∧Cur w' base b∧w.grownBy w' (some b):=by
 obtain⟨a,len,cap,i,h,hb,hbase,hi0,hil,hlen,hcode⟩:=id hC
 have c0:w.cell? ⟨b,0,none⟩=some (.slice a len cap):=cell_of_block hb 0
 have c1:w.cell? ⟨b,1,none⟩=some (.int .i64 i):=cell_of_block hb 1
 have c2:w.cell? ⟨b,2,none⟩=some (.int .i64 h):=cell_of_block hb 2
 have cf:∀ j,w.frozen? ⟨b,j,none⟩=false:=unfrozen_of_block hb
 have HC:Hid (Cur w base b):=hC
 have HB:Hid (w.heap[b]?=some (.cells #[.slice a len cap,.int .i64 i,.int .i64 h] 83 (0,0))):=hb
 have HK:Hid (CodeAt w base a len):=hcode
 clear hC hb hcode
 by_cases hlt:i < (len:Int)
 ·obtain⟨n,rfl⟩:=Int.eq_ofNat_of_zero_le hi0
  rcases HK.out with h0 | ⟨bc,off,rfl,hbc,hcs⟩
  ·omega
  ·obtain⟨y,hy,hy0,hy1⟩:=hcs n (by omega)
   have hne:¬ bc=b:=by omega
   have d:decide ((n:Int) < (len:Int))=true:=by simpa using hlt
   clear hcs
   go_enter Tryz.func19,Tryz.ntmps19
   go_wp2
   go_quiet (fail)
   go_wp2
   go_quiet (fail)
   go_wp2
   go_quiet (fail)
   go_wp2
   go_ret
   refine⟨_,rfl,(and255 _).1,(and255 _).2,cur_next HB.out HK.out hbase (by omega) hlen _ _,?_⟩
   exact grown_set (grown_drewN (grown_set (grown_refl _ _) _ _) _) _ _
 ·have d:decide (i < (len:Int))=false:=by simpa using hlt
  go_enter Tryz.func19,Tryz.ntmps19
  go_wp2
  go_quiet (fail)
  go_wp2
  go_quiet (fail)
  go_wp2
  go_ret
  refine⟨_,rfl,(and255 _).1,(and255 _).2,cur_stay HB.out HK.out hbase hi0 hil hlen _ _ _,?_⟩
  exact grown_drewN (grown_drewN (grown_set (grown_refl _ _) _ _) _) _
def InBelow (x n:Int):Prop:=0≤x∧(0 < n→x < n)∧(n≤0→x=0)
theorem rem_bd (x n:Int) (hn:0 < n):InBelow (x % n) n:=by
 exact⟨Int.emod_nonneg _ (by omega),fun _=>Int.emod_lt_of_pos _ hn,fun h=>by omega⟩
set_option maxHeartbeats 800000 in
theorem draw_below (base b:Nat) (n:Int) (w:World) (hC:Cur w base b):
  Calls Tryz.prog 20 #[.pointer (some ⟨b,0,none⟩),.int .i64 n] w fun e w'=>∃ x:Int,e=.returned (.int .i64 x)∧InBelow x n∧Cur w' base b∧w.grownBy w' (some b):=by
 have HC:Hid (Cur w base b):=hC
 clear hC
 by_cases h0:n≤0
 ·go_enter Tryz.func20,Tryz.ntmps20
  go_wp2_with fail
  go_ret
  exact⟨0,rfl,⟨Int.le_refl _,fun h=>by omega,fun _=>rfl⟩,HC.out,grown_refl _ _⟩
 ·by_cases h1:n≤256
  ·have hn:¬ n=0:=by omega
   go_enter Tryz.func20,Tryz.ntmps20
   go_wp2_with fail
   refine (draw_byte base b _ HC.out).mono ?_
   rintro e w1 ⟨x,rfl,hx0,hx1,hC1,hg1⟩
   have HC1:Hid (Cur w1 base b):=hC1
   clear hC1
   go_wp2_with fail
   go_ret
   exact⟨_,rfl,rem_bd _ n (by omega),HC1.out,hg1⟩
  ·have hn:¬ n=0:=by omega
   go_enter Tryz.func20,Tryz.ntmps20
   go_wp2_with fail
   refine (draw_byte base b _ HC.out).mono ?_
   rintro e w1 ⟨x1,rfl,hx0,hx1,hC1,hg1⟩
   have HC1:Hid (Cur w1 base b):=hC1
   clear hC1
   go_wp2_with fail
   refine (draw_byte base b _ HC1.out).mono ?_
   rintro e w2 ⟨x2,rfl,hy0,hy1,hC2,hg2⟩
   have HC2:Hid (Cur w2 base b):=hC2
   clear hC2
   go_wp2_with fail
   refine (draw_byte base b _ HC2.out).mono ?_
   rintro e w3 ⟨x3,rfl,hz0,hz1,hC3,hg3⟩
   have HC3:Hid (Cur w3 base b):=hC3
   clear hC3
   go_wp2_with fail
   refine (draw_byte base b _ HC3.out).mono ?_
   rintro e w4 ⟨x4,rfl,hu0,hu1,hC4,hg4⟩
   have HC4:Hid (Cur w4 base b):=hC4
   clear hC4
   go_wp2_with fail
   go_ret
   exact⟨_,rfl,rem_bd _ n (by omega),HC4.out,grown_trans (grown_trans (grown_trans hg1 hg2) hg3) hg4⟩
set_option maxHeartbeats 800000 in
theorem draw_new (a:Option Addr) (len cap:Nat) (base:Nat) (w:World) (hK:CodeAt w base a len) (hlen:len≤1048576) (hbase:base≤w.heap.size):
  Calls Tryz.prog 17 #[.slice a len cap] w fun e w'=>e=.returned (.pointer (some ⟨w.heap.size,0,none⟩))∧Cur w' base w.heap.size∧(∃ o,w'=w.alloc o):=by
 have HK:Hid (CodeAt w base a len):=hK
 clear hK
 go_enter Tryz.func17,Tryz.ntmps17
 go_wp2_with fail
 go_loop [3,4] (fun h i=>∃ (z:Int) (j:Nat),j≤len∧i=.int .i64 j∧h=.int .i64 z) (fun _ i=>len - (intOf i).toNat)
 case atStart=>exact⟨_,0,Nat.zero_le _,rfl,rfl⟩
 case round=>
  obtain⟨z,j,hj,rfl,rfl⟩:=hrel
  by_cases hlt:j < len
  ·rcases HK.out with h0 | ⟨bc,off,rfl,hbc,hcs⟩
   ·omega
   ·obtain⟨y,hy,hy0,hy1⟩:=hcs j hlt
    have d1:decide ((j:Int) < (len:Int))=true:=by simp; omega
    clear hcs
    by_cases h4:(j:Int) < 4000
    ·go_wp2_with fail
     go_round
     case rel=>exact⟨_,j+1,by omega,by go_num,rfl⟩
     case measure=>simp [intOf]; omega
    ·go_wp2_with fail
     go_ret
     exact⟨rfl,⟨_,len,cap,0,_,heap_alloc_new w _,hbase,by omega,by omega,hlen,HK.out.below ((Below.refl _ _).alloc hbase _)⟩,_,rfl⟩
  ·have d1:decide ((j:Int) < (len:Int))=false:=by simp; omega
   go_wp2_with fail
   go_ret
   exact⟨rfl,⟨_,len,cap,0,_,heap_alloc_new w _,hbase,by omega,by omega,hlen,HK.out.below ((Below.refl _ _).alloc hbase _)⟩,_,rfl⟩
theorem big_no (a:Option Addr) (len cap:Nat) (w:World) (h:(len:Int)≤1048576):
  Calls Tryz.prog 7 #[.slice a len cap] w fun e w'=>e=.returned (.bool false)∧w'=w:=by
 have d:decide ((1048576:Int) < (len:Int))=false:=by simp; omega
 go_enter Tryz.func7,Tryz.ntmps7
 go_wp2
 go_ret
 exact⟨rfl,rfl⟩
theorem big_yes (a:Option Addr) (len cap:Nat) (w:World) (h:(1048576:Int) < len) (_h63:(len:Int)≤9223372036854775807):
  Calls Tryz.prog 7 #[.slice a len cap] w fun e w'=>e=.returned (.bool true)∧w'=w:=by
 have d:decide ((1048576:Int) < (len:Int))=true:=by simpa using h
 go_enter Tryz.func7,Tryz.ntmps7
 go_wp2
 go_ret
 exact⟨rfl,rfl⟩
end Go.Proofs.YtklpiihnbokkkaaGreatDoor

namespace Go.Proofs.YtklpiihnbokkkaaGreatDoor
open Go.RowKit Go.Joins
theorem draw_once (base b:Nat) (n:Int) (w:World) (hC:Cur w base b):
  Calls Tryz.prog 48 #[.pointer (some ⟨b,0,none⟩),.int .i64 n] w fun e w'=>∃ x:Bool,e=.returned (.bool x)∧Cur w' base b∧w.grownBy w' (some b):=by
 have HC:Hid (Cur w base b):=hC
 clear hC
 go_enter Tryz.func48,Tryz.ntmps48
 go_wp2_with fail
 refine (draw_below base b n _ HC.out).mono ?_
 rintro e w1 ⟨x,rfl,hx,hC1,hg1⟩
 have HC1:Hid (Cur w1 base b):=hC1
 clear hC1 hx
 go_wp2_with fail
 go_ret
 exact⟨_,rfl,HC1.out,hg1⟩
end Go.Proofs.YtklpiihnbokkkaaGreatDoor

namespace Go.Proofs.YtklpiihnbokkkaaGreatDoor
open Go.RowKit Go.Joins
theorem draw_pickInt (base b g n cap:Nat) (p:Int→Prop) (w:World) (hC:Cur w base b) (hn:0 < n) (hne:g≠b) (hg:g < w.heap.size) (hl:∀ j,j < n→∃ x:Int,w.cell? ⟨g,j,none⟩=some (.int .i64 x)∧p x):
  Calls Tryz.prog 49 #[.pointer (some ⟨b,0,none⟩),.slice (some ⟨g,0,none⟩) n cap] w fun e w'=>∃ x:Int,e=.returned (.int .i64 x)∧p x∧Cur w' base b∧w.grownBy w' (some b):=by
 have HC:Hid (Cur w base b):=hC
 have HL:Hid (∀ j,j < n→∃ x:Int,w.cell? ⟨g,j,none⟩=some (.int .i64 x)∧p x):=hl
 clear hC hl
 go_enter Tryz.func49,Tryz.ntmps49
 go_wp2_with fail
 refine (draw_below base b n _ HC.out).mono ?_
 rintro e w1 ⟨x,rfl,hx,hC1,hg1⟩
 have HC1:Hid (Cur w1 base b):=hC1
 obtain⟨hx0,hx1,_⟩:=hx
 have hx2:=hx1 (by omega)
 obtain⟨j,rfl⟩:=Int.eq_ofNat_of_zero_le hx0
 obtain⟨y,hy,hp⟩:=HL.out j (by omega)
 have hy1:w1.cell? ⟨g,j,none⟩=some (.int .i64 y):=(World.cell?_of_block (a:=⟨g,j,none⟩) (hg1.block g hg (by simpa using hne))).trans hy
 have HP:Hid (p y):=hp
 clear hC1 hx1 hp
 go_wp2_with fail
 go_ret
 exact⟨_,rfl,HP.out,HC1.out,hg1⟩
end Go.Proofs.YtklpiihnbokkkaaGreatDoor

namespace Go.Proofs.YtklpiihnbokkkaaGreatDoor
open Go.RowKit Go.Joins
theorem draw_size (a:Option Addr) (len cap:Nat) (w:World) (hl:len≤1048576):Calls Tryz.prog 18 #[.slice a len cap] w fun e w'=>∃ n:Int,e=.returned (.int .i64 n)∧30≤n∧n≤300∧w'=w:=by
 by_cases h:270 < len
 ·have d:decide ((300:Int) < 30+(len:Int))=true:=decide_eq_true (by omega)
  have d2:(300:Int) < 30+(len:Int):=by omega
  go_enter Tryz.func18,Tryz.ntmps18
  go_wp2_with fail
  go_ret
  exact⟨300,rfl,by omega,by omega,rfl⟩
 ·have d:decide ((300:Int) < 30+(len:Int))=false:=decide_eq_false (by omega)
  have d2:¬ (300:Int) < 30+(len:Int):=by omega
  go_enter Tryz.func18,Tryz.ntmps18
  go_wp2_with fail
  go_ret
  exact⟨30+(len:Int),rfl,by omega,by omega,rfl⟩
end Go.Proofs.YtklpiihnbokkkaaGreatDoor

namespace Go.Proofs.YtklpiihnbokkkaaGreatDoor.TokMath
abbrev Tok:=Int×Int×Int
def TokRight (t:Tok):Prop:=if t.2.1=0 then (0≤t.1∧t.1≤255)∧t.2.2=0 else t.1=0∧(3≤t.2.1∧t.2.1≤258)∧(1≤t.2.2∧t.2.2≤32768)
instance (t:Tok):Decidable (TokRight t):=by unfold TokRight; exact inferInstance
def copyN (d:Nat):Nat→List Int→List Int
 | 0,O=>O
 | k+1,O=>copyN d k (O ++ [O.getD (O.length - d) 0])
theorem copy_length (d:Nat):∀ k O,(copyN d k O).length=O.length+k
 | 0,_=>rfl
 | k+1,O=>by
  show (copyN d k (O ++ [O.getD (O.length - d) 0])).length=_
  rw[copy_length d k,List.length_append,List.length_singleton]
  omega
theorem copy_snoc (d:Nat):∀ k O,copyN d (k+1) O=copyN d k O ++ [(copyN d k O).getD ((copyN d k O).length - d) 0]
 | 0,_=>rfl
 | k+1,O=>by
  have h:=copy_snoc d k (O ++ [O.getD (O.length - d) 0])
  exact h
theorem getD_shift (P O:List Int) (d:Nat) (_h0:0 < d) (h:d≤O.length):(P ++ O).getD ((P ++ O).length - d) 0=O.getD (O.length - d) 0:=by
 rw[List.getD_eq_getElem?_getD,List.getD_eq_getElem?_getD,List.length_append,List.getElem?_append_right (by omega)]
 congr 2
 omega
theorem copy_shift (P:List Int) (d:Nat) (h0:0 < d):∀ k O,d≤O.length→copyN d k (P ++ O)=P ++ copyN d k O
 | 0,_,_=>rfl
 | k+1,O,h=>by
  show copyN d k (P ++ O ++ [(P ++ O).getD ((P ++ O).length - d) 0])=P ++ copyN d k (O ++ [O.getD (O.length - d) 0])
  rw[getD_shift P O d h0 h,List.append_assoc,copy_shift P d h0 k _ (by rw [List.length_append]; omega)]
theorem copy_pre (d:Nat):∀ k O,∃ M,copyN d k O=O ++ M∧M.length=k
 | 0,O=>⟨[],by simp [copyN],rfl⟩
 | k+1,O=>by
  obtain⟨M,h,hl⟩:=copy_pre d k (O ++ [O.getD (O.length - d) 0])
  refine⟨[O.getD (O.length - d) 0] ++ M,?_,by rw [List.length_append,List.length_singleton,hl]; omega⟩
  show copyN d k (O ++ [O.getD (O.length - d) 0])=_
  rw[h,List.append_assoc]
def Bytes (O:List Int):Prop:=∀ x∈O,0≤x∧x≤255
theorem getD_byte {O:List Int} (h:Bytes O) (i:Nat):0≤O.getD i 0∧O.getD i 0≤255:=by
 rcases Nat.lt_or_ge i O.length with k | k
 ·rw[List.getD_eq_getElem?_getD,List.getElem?_eq_getElem k]
  exact h _ (List.getElem_mem k)
 ·rw[List.getD_eq_getElem?_getD,List.getElem?_eq_none k]
  exact⟨Int.le_refl _,by decide⟩
def tokApp (O:List Int) (t:Tok):List Int:=if t.2.1=0 then O ++ [t.1] else copyN t.2.2.toNat t.2.1.toNat O
theorem app_pre {t:Tok} (ht:TokRight t) (O:List Int):∃ M,tokApp O t=O ++ M∧1≤M.length∧M.length≤258:=by
 unfold TokRight at ht
 unfold tokApp
 by_cases h:t.2.1=0
 ·rw[if_pos h]
  exact⟨[t.1],rfl,Nat.le_refl _,by simp⟩
 ·rw[if_neg h] at ht
  rw[if_neg h]
  obtain⟨M,e,hl⟩:=copy_pre t.2.2.toNat t.2.1.toNat O
  exact⟨M,e,by omega,by omega⟩
theorem app_shift {t:Tok} (ht:TokRight t) (P O:List Int) (hd:t.2.2≤O.length):tokApp (P ++ O) t=P ++ tokApp O t:=by
 unfold TokRight at ht
 unfold tokApp
 by_cases h:t.2.1=0
 ·rw[if_pos h,if_pos h,List.append_assoc]
 ·rw[if_neg h] at ht
  rw[if_neg h,if_neg h,copy_shift P _ (by omega) _ _ (by omega)]
def run (O:List Int):List Tok→Option (List Int)
 | []=>some O
 | t :: R=>if TokRight t∧t.2.2≤(O.length:Int) then run (tokApp O t) R else none
def expandL (b:Nat) (O:List Int):List Tok→Option (List Int)
 | []=>some (O.drop b)
 | t :: R=>if TokRight t∧t.2.2≤(O.length:Int) then (if (tokApp O t).length≤b+12000 then expandL b (tokApp O t) R else none) else none
theorem run_grow:∀ {L:List Tok} {O F:List Int},run O L=some F→∃ M,F=O ++ M∧L.length≤M.length
 | [],O,F,h=>by
  cases h
  exact⟨[],by simp,Nat.le_refl _⟩
 | t :: R,O,F,h=>by
  unfold run at h
  split at h
  ·rename_i q
   obtain⟨M,e,h1,_⟩:=app_pre q.1 O
   obtain⟨M',e',h2⟩:=run_grow h
   refine⟨M ++ M',by rw [e',e,List.append_assoc],?_⟩
   rw[List.length_append,List.length_cons]
   omega
  ·cases h
theorem expand_run:∀ {L:List Tok} {O F:List Int} (b:Nat),run O L=some F→F.length≤b+12000→expandL b O L=some (F.drop b)
 | [],O,F,b,h,_=>by cases h; rfl
 | t :: R,O,F,b,h,hl=>by
  unfold run at h
  split at h
  ·rename_i q
   unfold expandL
   rw[if_pos q]
   obtain⟨M,e,_⟩:=run_grow h
   rw[if_pos (by rw [e,List.length_append] at hl; omega)]
   exact expand_run b h hl
  ·cases h
theorem run_app:∀ (L1 L2:List Tok) (O:List Int),run O (L1 ++ L2)=(run O L1).bind fun A=>run A L2
 | [],_,_=>rfl
 | t :: R,L2,O=>by
  show (if TokRight t∧t.2.2≤(O.length:Int) then run (tokApp O t) (R ++ L2) else none)=(if TokRight t∧t.2.2≤(O.length:Int) then run (tokApp O t) R else none).bind fun A=>run A L2
  by_cases q:TokRight t∧t.2.2≤(O.length:Int)
  ·rw[if_pos q,if_pos q]
   exact run_app R L2 _
  ·rw[if_neg q,if_neg q]
   rfl
theorem run_shift (P:List Int):∀ {L:List Tok} {O F:List Int},run O L=some F→run (P ++ O) L=some (P ++ F)
 | [],O,F,h=>by cases h; rfl
 | t :: R,O,F,h=>by
  unfold run at h
  split at h
  ·rename_i q
   unfold run
   rw[if_pos ⟨q.1,by rw [List.length_append]; have:=q.2; omega⟩,app_shift q.1 P O q.2]
   exact run_shift P h
  ·cases h
theorem parts {L:List Tok} {F:List Int} (h:run [] L=some F) (hl:F.length≤12000) (k:Nat):∃ A B,F=A ++ B∧expandL 0 [] L=some F∧expandL 0 [] (L.take k)=some A∧expandL A.length A (L.drop k)=some B∧(∀ P:List Int,expandL P.length P L=some F)∧L.length≤F.length∧A.length≤12000:=by
 have h0:=h
 rw[← List.take_append_drop k L,run_app] at h0
 cases hA:run [] (L.take k) with
 | none=>rw [hA] at h0; cases h0
 | some A=>
  rw[hA] at h0
  have h1:run A (L.drop k)=some F:=h0
  obtain⟨B,e,_⟩:=run_grow h1
  have hAl:A.length≤12000:=by rw [e,List.length_append] at hl; omega
  obtain⟨M,e2,h2⟩:=run_grow h
  refine⟨A,B,e,?_,?_,?_,fun P=>?_,?_,hAl⟩
  ·rw[expand_run 0 h (by omega),List.drop_zero]
  ·rw[expand_run 0 hA (by omega),List.drop_zero]
  ·rw[expand_run A.length h1 (by omega),e,List.drop_left]
  ·have:=run_shift P h
   rw[List.append_nil] at this
   rw[expand_run P.length this (by rw [List.length_append]; omega),List.drop_left]
  ·rw[e2]
   simpa using h2
end Go.Proofs.YtklpiihnbokkkaaGreatDoor.TokMath

namespace Go.Proofs.YtklpiihnbokkkaaGreatDoor
open Go.RowKit Go.Joins TokMath
theorem info_byte:(Tryz.prog.info? 5).map (fun i=>(i.zero,i.size,i.bytes))=some (some (.int .u8 0),1,1):=by kernel_rfl
def bytesOf (s:ByteArray):List Int:=s.data.toList.map fun b=>(b.toNat:Int)
theorem bytesOf_length (s:ByteArray):(bytesOf s).length=s.size:=by simp [bytesOf]
theorem str_back (s:ByteArray):strOfNums (bytesOf s)=s:=by
 obtain⟨d⟩:=s
 have e:((bytesOf ⟨d⟩).map fun n=>UInt8.ofNat n.toNat)=d.toList:=by
  show (d.toList.map fun b=>(b.toNat:Int)).map (fun n=>UInt8.ofNat n.toNat)=d.toList
  rw[List.map_map]
  refine (List.map_congr_left (fun b _=>?_)).trans (List.map_id _)
  show UInt8.ofNat ((b.toNat:Int)).toNat=id b
  rw[Int.toNat_natCast,UInt8.ofNat_toNat]
  rfl
 unfold strOfNums
 rw[e]
theorem bytesOf_str {O:List Int} (h:Bytes O):bytesOf (strOfNums O)=O:=by
 unfold bytesOf
 rw[strOfNums_data,List.map_map]
 refine (List.map_congr_left (fun x hx=>?_)).trans (List.map_id _)
 have:=h x hx
 show ((UInt8.ofNat x.toNat).toNat:Int)=x
 rw[UInt8.toNat_ofNat',Nat.mod_eq_of_lt (by omega)]
 omega
def u8l (O:List Int):List Value:=O.map (Value.int .u8)
theorem u8l_length (O:List Int):(u8l O).length=O.length:=by simp [u8l]
theorem u8l_app (O:List Int) (x:Int):u8l O ++ [.int .u8 x]=u8l (O ++ [x]):=by simp [u8l]
def BOwn (w:World) (base g n cap:Nat) (O:List Int):Prop:=n=O.length∧Own 5 w base g (.slice (some ⟨g,0,none⟩) n cap) (u8l O)
theorem BOwn.lt {w:World} {base g n cap:Nat} {O:List Int} (h:BOwn w base g n cap O):g < w.heap.size:=h.2.lt
theorem BOwn.base_le {w:World} {base g n cap:Nat} {O:List Int} (h:BOwn w base g n cap O):base≤g:=h.2.base_le
theorem BOwn.keep {w w':World} {base g n cap:Nat} {O:List Int} (h:BOwn w base g n cap O) (hk:w'.heap[g]?=w.heap[g]?):BOwn w' base g n cap O:=⟨h.1,h.2.keep hk⟩
theorem BOwn.called {w w':World} {base g n cap:Nat} {O:List Int} (h:BOwn w base g n cap O) (hb:Below w.heap.size w w'):BOwn w' base g n cap O:=h.keep (hb.block g h.lt)
theorem BOwn.cell {w:World} {base g n cap:Nat} {O:List Int} (h:BOwn w base g n cap O) (j:Nat) (hj:j < n):w.cell? ⟨g,j,none⟩=some (.int .u8 (O.getD j 0)):=by
 have hl:j < O.length:=by have:=h.1; omega
 have hj':j < (u8l O).length:=by rw [u8l_length]; exact hl
 rw[h.2.cell j hj',List.getD_eq_getElem?_getD,List.getElem?_eq_getElem hl]
 simp[u8l]
theorem BOwn.room {w:World} {base g n cap:Nat} {O:List Int} (h:BOwn w base g n cap O):n≤cap:=by
 obtain⟨hn,cap',cur,fz,hv,_,_,_,hc,_⟩:=h
 cases hv
 rw[u8l_length] at hc
 omega
theorem bown_of_text (w:World) (s:ByteArray) (hs:s.size≤1048576):∃ W1 cap,(convert 9 22 (.string s)).run Tryz.prog w=.ok (.slice (some ⟨w.heap.size,0,none⟩) s.size cap) W1∧BOwn W1 w.heap.size w.heap.size s.size cap (bytesOf s)∧Below w.heap.size w W1:=by
 refine⟨_,_,run_bytes_of_string (P:=Tryz.prog) w 9 22 5 s Tryz.underlying9 Tryz.underlying22 Tryz.underlying5,⟨(bytesOf_length s).symm,?_⟩,?_⟩
 ·have h:=own_of_bytes (base:=w.heap.size) w 5 s (by unfold maxLen; omega) (Nat.le_refl _)
  have e:(s.data.toList.map fun b=>Value.int .u8 (b.toNat:Int))=u8l (bytesOf s):=by unfold u8l bytesOf; rw [List.map_map]; rfl
  rw[e] at h
  exact h
 ·exact (Below.refl _ _).drew.alloc (Nat.le_refl _) _
theorem bown_text {w:World} {base g n cap k c:Nat} {O:List Int} (h:BOwn w base g n cap O) (hk:k≤n):(convert 22 9 (.slice (some ⟨g,k,none⟩) (n - k) c)).run Tryz.prog w=.ok (.string (strOfNums (O.drop k))) w:=by
 refine run_convert_bytes_arg w 22 5 Tryz.underlying22 Tryz.underlying5 g k _ c (O.drop k) (by rw [List.length_drop,← h.1]) (fun i hi=>?_) 9 Tryz.underlying9
 rw[h.cell (k+i) (by omega),List.getD_eq_getElem?_getD,List.getD_eq_getElem?_getD,List.getElem?_drop]
theorem bytes_append {w:World} {base g n cap:Nat} {O:List Int} {ops:Array Oper} {rest:List Oper} {o:Oper} {a:Act} {Q:Exit→Act→World→Prop} (hgd:o.guard=none) (s y:Operand)
  (hop:o.op=.call { callee:=.builtin .append,args:=#[s,y],argTypes:=#[22,22] }) (hs:a.eval s=.slice (some ⟨g,0,none⟩) n cap) (h:BOwn w base g n cap O) (b c:Nat) (x:Int) (hy:a.eval y=.slice (some ⟨b,0,none⟩) 1 c) (hx:w.cell? ⟨b,0,none⟩=some (.int .u8 x)) (h63:n≤1048576)
  (hK:∀ g' cap' w',BOwn w' base g' (n+1) cap' (O ++ [x])→(g'=g∨w.heap.size≤g')→w.grownBy w' (some g)→wpList Tryz.prog ops Q rest (a.put o.dst (.slice (some ⟨g',0,none⟩) (n+1) cap')) w'):wpList Tryz.prog ops Q (o :: rest) a w:=by
 obtain⟨i0,hi0,hz0,hz1,hz2⟩:=info_parts info_byte
 obtain⟨hn,ho⟩:=h
 have hl:(u8l O).length=n:=by rw [u8l_length,hn]
 refine wpList_append1 hgd s y 22 hop i0 (.int .u8 0) 1 Tryz.underlying22 hi0 hz0 hz1 hz2 rfl hs ho ⟨b,0,none⟩ c (.int .u8 x) hy hx rfl rfl (by rw [hl]; unfold maxLen; omega) (by rw [hl]; omega) ?_
 intro g' v' w' hO hg hgr
 obtain⟨cap',hv⟩:=hO.form
 rw[u8l_app] at hO
 rw[List.length_append,List.length_singleton,hl] at hv
 subst hv
 exact hK g' cap' w' ⟨by rw [List.length_append,List.length_singleton,hn],hO⟩ hg hgr
end Go.Proofs.YtklpiihnbokkkaaGreatDoor
