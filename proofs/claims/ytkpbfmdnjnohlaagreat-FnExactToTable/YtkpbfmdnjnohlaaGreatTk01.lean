/-
  Texts of the proof, put together.
-/
import Derived.Test.YtkpbfmdnjnohlaaGreatRows
import Derived.Lib.SmallJoins
import Derived.Deep.QuietTactic
namespace Go.Proofs.YtkpbfmdnjnohlaaGreat
section
open Go.RowKit Go.Joins
theorem of_laid:laidOutB Tryz.prog=true:=by kernel_rfl
theorem bnext {a b c:World} (h:Below a.heap.size a b) (k:Below b.heap.size b c):Below a.heap.size a c:=h.trans (k.mono h.size)
theorem bal {a b:World} (h:Below a.heap.size a b) (o:Obj):Below a.heap.size a (b.alloc o):=h.alloc h.size o
theorem bstart (a:World) (o:Obj):Below a.heap.size a (a.alloc o):=(Below.refl _ _).alloc (Nat.le_refl _) o
theorem bdraws {a b:World} (h:Below a.heap.size a b) (n:Nat):Below a.heap.size a (b.drewN n):=h.trans ⟨rfl,rfl,rfl,Nat.le_refl _,fun _ _=>rfl⟩
theorem hid_of {p:Prop} (h:p):Hid p:=h
theorem grow_cell {w:World} (o:Obj) {b:Nat} (h:b < w.heap.size) (i:Nat):(w.alloc o).cell? ⟨b,i,none⟩=w.cell? ⟨b,i,none⟩:=(bstart w o).cell (p:=⟨b,i,none⟩) h
theorem block_lt {w:World} {b:Nat} {o:Obj} (h:w.heap[b]?=some o):b < w.heap.size:=by
 rcases Nat.lt_or_ge b w.heap.size with k | k
 ·exact k
 ·rw[Array.getElem?_eq_none k] at h; cases h
end
section
theorem if_wanted {c A E:Prop} [Decidable c] (hc:c) (h:A):if c then A else E:=by rw [if_pos hc]; exact h
theorem wanted_none {o:Oper} {y:Nat→Option Bool} (h:o.guard=none):Region.wanted o y=true:=by simp [Region.wanted,h]
theorem wanted_yes {o:Oper} {y:Nat→Option Bool} {i:Nat} {b:Bool} (h:o.guard=some (i,b)) (hy:y i=some b):Region.wanted o y=true:=by simp [Region.wanted,h,hy]
end
section
open Go.RowKit Go.Joins
def Own (e:TypeId) (w:World) (base g:Nat) (v:Value) (xs:List Value):Prop:=
 ∃ cap cur fz,v=.slice (some ⟨g,0,none⟩) xs.length cap∧base≤g∧w.heap[g]?=some (.cells cur e fz)∧(fz.2=0∨cap≤fz.1)∧xs.length≤cap∧cap≤maxLen∧cur.size=cap∧cur.toList.take xs.length=xs
section
variable {e:TypeId} {w w':World} {base g:Nat} {v:Value} {xs:List Value}
theorem Own.form (h:Own e w base g v xs):∃ cap,v=.slice (some ⟨g,0,none⟩) xs.length cap:=by
 obtain⟨cap,cur,fz,hv,_⟩:=h
 exact⟨cap,hv⟩
theorem Own.base_le (h:Own e w base g v xs):base≤g:=by
 obtain⟨cap,cur,fz,_,hb,_⟩:=h
 exact hb
theorem Own.lt (h:Own e w base g v xs):g < w.heap.size:=by
 obtain⟨cap,cur,fz,_,_,hg,_⟩:=h
 rcases Nat.lt_or_ge g w.heap.size with k | k
 ·exact k
 ·rw[Array.getElem?_eq_none k] at hg; cases hg
theorem Own.keep (h:Own e w base g v xs) (hk:w'.heap[g]?=w.heap[g]?):Own e w' base g v xs:=by
 obtain⟨cap,cur,fz,h1,h2,h3,h4⟩:=h
 exact⟨cap,cur,fz,h1,h2,hk.trans h3,h4⟩
theorem Own.alloc (h:Own e w base g v xs) (o:Obj):Own e (w.alloc o) base g v xs:=h.keep (Below.heap_alloc w o g h.lt)
theorem Own.drewN (h:Own e w base g v xs) (n:Nat):Own e (w.drewN n) base g v xs:=h.keep rfl
theorem Own.below {B:Nat} (h:Own e w base g v xs) (hb:Below B w w') (hg:g < B):Own e w' base g v xs:=h.keep (hb.block g hg)
theorem Own.mono {b:Nat} (h:Own e w base g v xs) (hb:b≤base):Own e w b g v xs:=by
 obtain⟨cap,cur,fz,h1,h2,h3⟩:=h
 exact⟨cap,cur,fz,h1,Nat.le_trans hb h2,h3⟩
theorem Own.cell (h:Own e w base g v xs) (j:Nat) (hj:j < xs.length):w.cell? ⟨g,j,none⟩=some xs[j]:=by
 obtain⟨cap,cur,fz,_,_,hg,_,_,_,_,ht⟩:=h
 have e1:w.cell? ⟨g,j,none⟩=cur[j]?:=cell_of_block hg j
 rw[e1]
 have e2:(cur.toList.take xs.length)[j]?=cur[j]?:=by
  rw[List.getElem?_take,if_pos hj]
  simp
 rw[← e2,ht,List.getElem?_eq_getElem hj]
theorem Own.free (h:Own e w base g v xs) (j:Nat) (hj:j < xs.length):w.frozen? ⟨g,j,none⟩=false:=by
 obtain⟨cap,cur,fz,_,_,hg,hf,hn,_⟩:=h
 obtain⟨lo,hi⟩:=fz
 simp only [World.frozen?,hg]
 simp only at hf
 rw[Bool.and_eq_false_iff]
 rcases hf with hf | hf
 ·right; simp; omega
 ·left; simp; omega
theorem Own.set (h:Own e w base g v xs) (j:Nat) (_hj:j < xs.length) (u:Value):Own e (w.setCell ⟨g,j,none⟩ u) base g v (xs.set j u):=by
 obtain⟨cap,cur,fz,h1,h2,hg,h4,h5,h6,h7,ht⟩:=h
 refine⟨cap,cur.setIfInBounds j u,fz,?_,h2,block_setCell (i:=j) hg u,h4,?_,h6,?_,?_⟩
 ·rw[List.length_set]; exact h1
 ·rw[List.length_set]; exact h5
 ·simpa using h7
 ·rw[List.length_set,Array.toList_setIfInBounds,List.take_set,ht]
theorem own_of_ownsRow {n:Nat} {b:Nat} (h:w.ownsRow b e 1 v n xs) (hn:0 < n):∃ g,b≤g∧Own e w b g v xs:=by
 obtain⟨hl,hh⟩:=h
 have hl':xs.length=n:=by simpa using hl
 rcases hh with ⟨_,h0⟩ | ⟨g,cap,cur,hv,hb,hg,hnc,hcm,hcs,ht⟩
 ·omega
 ·refine⟨g,hb,cap,cur,(0,0),by rw [hl']; exact hv,hb,hg,.inl rfl,by omega,hcm,by simpa using hcs,?_⟩
  rw[hl']; simpa using ht
variable {P:Program}
theorem run_append1 (t ty:TypeId) (i:TypeInfo) (z:Value) (bytes:Nat) (ht:P.underlying t=some (.slice e)) (hi:P.info? e=some i) (hz:i.zero=some z) (hs1:i.size=1) (hby:i.bytes=bytes) (hzs:z.cells.size=1)
  (h:Own e w base g v xs) (ad:Addr) (c:Nat) (x:Value) (hx:w.cell? ad=some x) (hspot:ad.spot=none) (h1:x.oneCell'=true) (h63:xs.length+1≤maxLen) (hbytes:(xs.length+1) * bytes≤140737488355328):
  ∃ g' v' w',(Builtin.append_ #[t,t] ty #[v,.slice (some ad) 1 c]).run P w=.ok v' w'∧Own e w' base g' v' (xs ++ [x])∧(g'=g∨w.heap.size≤g')∧w.grownBy w' (some g):=by
 have hlt:=h.lt
 obtain⟨cap,cur,fz,hv,hb,hg,hf,hn,hcm,hcs,htk⟩:=id h
 have hnews:∀ (j:Nat) (u:Value),[x][j]?=some u→w.cell? (ad.add j)=some u:=by
  intro j u hj
  match j,hj with
  | 0,hj=>
   simp at hj
   subst hj
   obtain⟨ab,ao,asp⟩:=ad
   simp only at hspot
   subst hspot
   simpa [Addr.add] using hx
 subst hv
 by_cases hroom:xs.length+1≤cap
 ·have hc:∀ j,j < [x].length→(w.cell? ⟨g,0+xs.length * i.size+j,none⟩).isSome=true:=by
   intro j hj
   have:j=0:=by simpa using hj
   subst this
   rw[hs1,show 0+xs.length * 1+0=xs.length by omega,cell_of_block hg,Array.getElem?_eq_getElem (by omega)]
   rfl
  have hfz:∀ j,j < [x].length→w.frozen? ⟨g,0+xs.length * i.size+j,none⟩=false:=by
   intro j hj
   have:j=0:=by simpa using hj
   subst this
   rw[hs1,show 0+xs.length * 1+0=xs.length by omega]
   obtain⟨lo,hi'⟩:=fz
   simp only [World.frozen?,hg]
   simp only at hf
   rw[Bool.and_eq_false_iff]
   rcases hf with hf | hf
   ·right; simp; omega
   ·left; simp; omega
  have hr:=run_append_room_cells (P:=P) w t ty e i ht hi g 0 xs.length cap ad 1 c [x] (by simp [hs1]) hnews (by simpa using h1) hroom hc hfz
  rw[hs1,show 0+xs.length * 1=xs.length by omega] at hr
  refine⟨g,_,_,hr,?_,.inl rfl,?_⟩
  ·show Own e (w.setCell ⟨g,xs.length,none⟩ x) base g _ _
   refine⟨cap,cur.setIfInBounds xs.length x,fz,by simp,hb,block_setCell (i:=xs.length) hg x,hf,by simpa using hroom,hcm,by simpa using hcs,?_⟩
   rw[Array.toList_setIfInBounds]
   rw[List.length_append,List.length_singleton]
   have hlen:xs.length < cur.toList.length:=by simp; omega
   rw[List.take_succ_eq_append_getElem (by simpa using hlen)]
   rw[List.take_set,List.getElem_set_self]
   rw[htk,List.set_eq_of_length_le (by omega)]
  ·show w.grownBy (w.setCell ⟨g,xs.length,none⟩ x) (some g)
   refine⟨rfl,rfl,rfl,by simp,fun k hk hne=>?_⟩
   exact Below.heap_setCell w _ _ k (by simpa using hne)
 ·obtain⟨v',w',hrun,r1,r2⟩:=run_append_arg_grows (P:=P) w t ty e i z 1 bytes ht hi hz hs1 hby hzs (by decide) ⟨g,0,none⟩ xs.length cap xs (by simp) (fun j u hj=>by
   have hj':j < xs.length:=by
    rcases Nat.lt_or_ge j xs.length with k | k
    ·exact k
    ·rw[List.getElem?_eq_none k] at hj; cases hj
   rw[List.getElem?_eq_getElem hj'] at hj
   have:=h.cell j hj'
   rw[Addr.add_lit,Nat.zero_add,this,hj]) ad 1 c [x] (by simp) hnews (by omega) h63 hbytes
  obtain⟨g',hg',ho⟩:=own_of_ownsRow r1 (by omega)
  refine⟨g',v',w',hrun,ho.mono ?_,.inr hg',?_⟩
  ·omega
  ·obtain⟨a1,a2,a3,a4,a5⟩:=r2
   exact⟨a1,a2,a3,a4,fun k hk _=>a5 k hk (by simp)⟩
theorem wpList_append1 {ops:Array Oper} {rest:List Oper} {o:Oper} {a:Act} {Q:Exit→Act→World→Prop} (hgd:o.guard=none) (s y:Operand) (t:TypeId)
  (hop:o.op=.call { callee:=.builtin .append,args:=#[s,y],argTypes:=#[t,t] })
  (i:TypeInfo) (z:Value) (bytes:Nat) (ht:P.underlying t=some (.slice e)) (hi:P.info? e=some i) (hz:i.zero=some z) (hs1:i.size=1) (hby:i.bytes=bytes) (hzs:z.cells.size=1)
  (hs:a.eval s=v) (h:Own e w base g v xs) (ad:Addr) (c:Nat) (x:Value) (hy:a.eval y=.slice (some ad) 1 c) (hx:w.cell? ad=some x) (hspot:ad.spot=none) (h1:x.oneCell'=true) (h63:xs.length+1≤maxLen) (hbytes:(xs.length+1) * bytes≤140737488355328)
  (hK:∀ g' v' w',Own e w' base g' v' (xs ++ [x])→(g'=g∨w.heap.size≤g')→w.grownBy w' (some g)→wpList P ops Q rest (a.put o.dst v') w'):wpList P ops Q (o :: rest) a w:=by
 refine wpList_plain hgd fun K hK'=>?_
 obtain⟨g',v',w',hrun,r1,r2,r3⟩:=run_append1 (P:=P) t o.type i z bytes ht hi hz hs1 hby hzs h ad c x hx hspot h1 h63 hbytes
 unfold Oper.wp
 simp[execOp,hop,resolve,invoke,builtin,hs,hy,hrun,Result.andThen]
 exact hK' _ _ (hK g' v' w' r1 r2 r3)
end
end
section
open Go.RowKit Go.Joins
def IsRow (k:IntKind) (w:World) (a:Option Addr) (len cap:Nat) (zs:List Int):Prop:=
 (a=none∧len=0∧cap=0∧zs=[])∨
 ∃ x,a=some x∧len≤cap∧cap≤maxLen∧zs.length=cap∧(∀ i,i < zs.length→w.cell? (x.add i)=some (.int k (zs.getD i 0)))∧∀ n∈zs,(Lit.int k n).wf=true
end
section
open Go.RowKit Go.Joins
def fints (f:Nat→Int) (n:Nat):List Value:=(List.range n).map fun i=>.int .i64 (f i)
def upd (f:Nat→Int) (j:Nat) (x:Int):Nat→Int:=fun i=>if i=j then x else f i
theorem fints_length (f:Nat→Int) (n:Nat):(fints f n).length=n:=by simp [fints]
theorem fints_get (f:Nat→Int) (n j:Nat) (h:j < (fints f n).length):(fints f n)[j]=.int .i64 (f j):=by simp [fints]
theorem fints_congr {f g:Nat→Int} {n:Nat} (h:∀ i,i < n→f i=g i):fints f n=fints g n:=by
 unfold fints
 refine List.map_congr_left fun i hi=>?_
 rw[h i (List.mem_range.mp hi)]
theorem fints_set (f:Nat→Int) (n j:Nat) (x:Int):(fints f n).set j (.int .i64 x)=fints (upd f j x) n:=by
 refine List.ext_getElem (by simp [fints]) fun i h1 h2=>?_
 rw[List.getElem_set,fints_get (upd f j x)]
 by_cases hij:j=i
 ·subst hij
  rw[if_pos rfl]
  simp[upd]
 ·have hji:¬ i=j:=fun h=>hij h.symm
  rw[if_neg hij,fints_get]
  simp[upd,hji]
def IOwn (w:World) (base g n cap:Nat) (f:Nat→Int):Prop:=Own 3 w base g (.slice (some ⟨g,0,none⟩) n cap) (fints f n)
section
variable {w w':World} {base g n cap:Nat} {f:Nat→Int}
theorem IOwn.lt (h:IOwn w base g n cap f):g < w.heap.size:=Own.lt h
theorem IOwn.base_le (h:IOwn w base g n cap f):base≤g:=Own.base_le h
theorem IOwn.cell (h:IOwn w base g n cap f) (j:Nat) (hj:j < n):w.cell? ⟨g,j,none⟩=some (.int .i64 (f j)):=by
 have h':j < (fints f n).length:=by rw [fints_length]; exact hj
 rw[Own.cell h j h',fints_get]
theorem IOwn.free (h:IOwn w base g n cap f) (j:Nat) (hj:j < n):w.frozen? ⟨g,j,none⟩=false:=Own.free h j (by rw [fints_length]; exact hj)
theorem IOwn.set (h:IOwn w base g n cap f) (j:Nat) (hj:j < n) (x:Int):IOwn (w.setCell ⟨g,j,none⟩ (.int .i64 x)) base g n cap (upd f j x):=by
 have k:=Own.set h j (by rw [fints_length]; exact hj) (.int .i64 x)
 rw[fints_set] at k
 exact k
theorem IOwn.congr {f':Nat→Int} (h:IOwn w base g n cap f) (e:∀ i,i < n→f i=f' i):IOwn w base g n cap f':=by
 unfold IOwn at h ⊢
 rw[← fints_congr e]
 exact h
theorem IOwn.keep (h:IOwn w base g n cap f) (hk:w'.heap[g]?=w.heap[g]?):IOwn w' base g n cap f:=Own.keep h hk
theorem IOwn.alloc (h:IOwn w base g n cap f) (o:Obj):IOwn (w.alloc o) base g n cap f:=Own.alloc h o
theorem IOwn.drew (h:IOwn w base g n cap f):IOwn w.drew base g n cap f:=Own.drewN h 1
theorem IOwn.below {B:Nat} (h:IOwn w base g n cap f) (hb:Below B w w') (hg:g < B):IOwn w' base g n cap f:=Own.below h hb hg
theorem IOwn.called (h:IOwn w base g n cap f) (hb:Below w.heap.size w w'):IOwn w' base g n cap f:=Own.below h hb h.lt
theorem IOwn.mono {b:Nat} (h:IOwn w base g n cap f) (hb:b≤base):IOwn w b g n cap f:=Own.mono h hb
theorem IOwn.grown {row:Option Nat} (h:IOwn w base g n cap f) (hg:w.grownBy w' row) (hne:row≠some g):IOwn w' base g n cap f:=h.keep (hg.block g h.lt (Ne.symm hne))
theorem made_ints (n:Nat):(madeCells #[Value.int .i64 0] n).toList=fints (fun _=>0) n:=by
 unfold madeCells fints
 rw[Array.toList_map,Array.toList_range]
 refine List.map_congr_left fun i _=>?_
 simp[Nat.mod_one]
theorem IOwn.made (w:World) (n:Nat) (hn:n≤maxLen) (hb:base≤w.heap.size):IOwn (w.alloc (.cells (madeCells #[Value.int .i64 0] n) 3)) base w.heap.size n n (fun _=>0):=by
 refine⟨n,madeCells #[Value.int .i64 0] n,(0,0),by rw [fints_length],hb,heap_alloc_new w _,.inl rfl,by rw [fints_length]; exact Nat.le_refl _,hn,by simp [madeCells],?_⟩
 rw[made_ints,fints_length,List.take_of_length_le (by rw [fints_length]; exact Nat.le_refl _)]
end
def Came (w:World) (a:Option Addr) (n:Nat) (f:Nat→Int):Prop:=
 n=0∨∃ g off,a=some ⟨g,off,none⟩∧g < w.heap.size∧∀ j,j < n→w.cell? ⟨g,off+j,none⟩=some (.int .i64 (f j))
theorem Came.called {w w':World} {a:Option Addr} {n:Nat} {f:Nat→Int} (h:Came w a n f) (hb:Below w.heap.size w w'):Came w' a n f:=by
 rcases h with h | ⟨g,off,ha,hg,hc⟩
 ·exact .inl h
 ·exact .inr ⟨g,off,ha,Nat.lt_of_lt_of_le hg hb.size,fun j hj=>(hb.cell (p:=⟨g,off+j,none⟩) hg).trans (hc j hj)⟩
def SL (w:World) (base:Nat) (a:Option Addr) (n cap:Nat) (f:Nat→Int):Prop:=n=0∨∃ g,a=some ⟨g,0,none⟩∧IOwn w base g n cap f
theorem SL.came {w:World} {base:Nat} {a:Option Addr} {n cap:Nat} {f:Nat→Int} (h:SL w base a n cap f):Came w a n f:=by
 rcases h with h | ⟨g,rfl,h⟩
 ·exact .inl h
 ·exact .inr ⟨g,0,rfl,h.lt,fun j hj=>by rw [Nat.zero_add]; exact h.cell j hj⟩
theorem SL.called {w w':World} {base:Nat} {a:Option Addr} {n cap:Nat} {f:Nat→Int} (h:SL w base a n cap f) (hb:Below w.heap.size w w'):SL w' base a n cap f:=by
 rcases h with h | ⟨g,rfl,h⟩
 ·exact .inl h
 ·exact .inr ⟨g,rfl,h.called hb⟩
theorem IOwn.sl {w:World} {base g n cap:Nat} {f:Nat→Int} (h:IOwn w base g n cap f):SL w base (some ⟨g,0,none⟩) n cap f:=.inr ⟨g,rfl,h⟩
theorem Came.grown {w w':World} {a:Option Addr} {n B:Nat} {f:Nat→Int} {row:Option Nat} (h:Came w a n f) (hB:∀ g off,a=some ⟨g,off,none⟩→g < B) (hr:∀ k,row=some k→B≤k) (hg:w.grownBy w' row):Came w' a n f:=by
 rcases h with h | ⟨g,off,ha,hlt,hc⟩
 ·exact .inl h
 ·refine .inr ⟨g,off,ha,Nat.lt_of_lt_of_le hlt hg.size,fun j hj=>?_⟩
  have hne:some g≠row:=fun e=>by have h1:=hB g off ha; have h2:=hr g e.symm; omega
  have hb:=hg.block g hlt hne
  rw[← hc j hj]
  unfold World.cell?
  rw[hb]
theorem came_of_row {w:World} {a:Option Addr} {len cap:Nat} {zs:List Int} (h:IsRow .i64 w a len cap zs):Came w a len (fun j=>zs.getD j 0)∧len≤maxLen∧∀ i,i < len→(Lit.int .i64 (zs.getD i 0)).wf=true:=by
 rcases h with ⟨_,rfl,rfl,_⟩ | ⟨x,rfl,hl,hm,hz,hc,hw⟩
 ·exact⟨.inl rfl,Nat.zero_le _,fun i hi=>absurd hi (Nat.not_lt_zero i)⟩
 ·refine⟨?_,by omega,fun i hi=>hw _ ?_⟩
  ·rcases Nat.eq_zero_or_pos len with h0 | h0
   ·exact .inl h0
   ·obtain⟨b,off,spot⟩:=x
    have h1:=hc 0 (by omega)
    have hspot:spot=none:=by simpa [Addr.add] using World.cell?_spot h1
    subst hspot
    have hadd:∀ j,(⟨b,off,none⟩:Addr).add j=⟨b,off+j,none⟩:=fun j=>Addr.add_lit _ _ _
    refine .inr ⟨b,off,rfl,?_,fun j hj=>?_⟩
    ·rw[hadd] at h1
     exact World.block_lt_of_cell? w _ h1
    ·have h2:=hc j (by omega)
     rw[hadd] at h2
     exact h2
  ·rw[List.getD_eq_getElem?_getD,List.getElem?_eq_getElem (by omega)]
   exact List.getElem_mem _
end
section
namespace OutMath
def p2 (n:Nat):Int:=2 ^ n
theorem p2_zero:p2 0=1:=by simp [p2]
theorem p2_succ (n:Nat):p2 (n+1)=2 * p2 n:=by unfold p2; rw [Int.pow_succ]; omega
theorem p2_pos:∀ n,1≤p2 n
 | 0=>by simp [p2]
 | n+1=>by have:=p2_pos n; rw [p2_succ]; omega
theorem p2_mono (n:Nat):∀ m,p2 n≤p2 (n+m)
 | 0=>by simp
 | m+1=>by have:=p2_mono n m; have h:=p2_pos (n+m); rw [← Nat.add_assoc,p2_succ]; omega
theorem p2_le {n m:Nat} (h:n≤m):p2 n≤p2 m:=by
 obtain⟨k,rfl⟩:=Nat.exists_eq_add_of_le h
 exact p2_mono n k
theorem p2_61 {n:Nat} (h:n≤61):p2 n≤2305843009213693952:=by
 have h1:=p2_le h
 have h2:p2 61=2305843009213693952:=by decide +kernel
 omega
def last (s:ByteArray):Nat:=(s.data[s.size - 1]?.getD 0).toNat
end OutMath
end
section
namespace BigMath
def rb (s:ByteArray) (a:Nat):Nat→Int
 | 0=>0
 | k+1=>256 * rb s a k+((s.data[a+k]?.getD 0).toNat:Int)
end BigMath
end
section
namespace BigTextMath
def q256:Nat→Int
 | 0=>1
 | n+1=>q256 n * 256
def low (n:Int):Nat→List Int
 | 0=>[]
 | k+1=>(n / q256 k % 256) :: low n k
end BigTextMath
end
section
namespace TakeMath
open OutMath
def byteAt (s:ByteArray) (i:Nat):Nat:=(s.data[i]?.getD 0).toNat
theorem byteAt_get (s:ByteArray) (i:Nat) (h:i < s.size):(s[i]'h).toNat=byteAt s i:=by
 unfold byteAt
 have h':i < s.data.size:=h
 rw[Array.getElem?_eq_getElem h']
 rfl
end TakeMath
end
end Go.Proofs.YtkpbfmdnjnohlaaGreat
