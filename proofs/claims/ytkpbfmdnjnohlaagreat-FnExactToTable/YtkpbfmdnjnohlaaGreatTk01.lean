/-
  Texts of the proof, put together.
-/
import Derived.Test.YtkpbfmdnjnohlaaGreatRows
import Derived.Lib.SmallJoins
import Derived.Deep.QuietTactic
import Derived.Deep.AppendLies
import Derived.Laws.AppendOwnNone
namespace Go.Proofs.YtkpbfmdnjnohlaaGreat
section
open Go.RowKit Go.Joins
theorem of_laid:laidOutB Tryz.prog=true:=by kernel_rfl
theorem bnext {a b c:World} (h:Below a.heap.size a b) (k:Below b.heap.size b c):Below a.heap.size a c:=h.trans (k.mono h.size)
theorem bal {a b:World} (h:Below a.heap.size a b) (o:Obj):Below a.heap.size a (b.alloc o):=h.alloc h.size o
theorem bstart (a:World) (o:Obj):Below a.heap.size a (a.alloc o):=(Below.refl _ _).alloc (Nat.le_refl _) o
theorem bdraws {a b:World} (h:Below a.heap.size a b) (n:Nat):Below a.heap.size a (b.drewN n):=h.trans ⟨rfl,rfl,rfl,Nat.le_refl _,fun _ _=>rfl⟩
theorem hid_of {p:Prop} (h:p):Hid p:=h
theorem grow_cell {w:World} (o:Obj) {b:Nat} (h:b < w.heap.size) (i:Nat):(w.alloc o).cell? ⟨b,i,none⟩=w.cell? ⟨b,i,none⟩:=(bstart w o).cell (p:=⟨b,i,none⟩) h
theorem block_lt {w:World} {b:Nat} {o:Obj} (h:w.heap[b]?=some o):b < w.heap.size:=by
 rcases Nat.lt_or_ge b w.heap.size with k | k
 ·exact k
 ·rw[Array.getElem?_eq_none k] at h; cases h
end
section
theorem if_wanted {c A E:Prop} [Decidable c] (hc:c) (h:A):if c then A else E:=by rw [if_pos hc]; exact h
theorem wanted_none {o:Oper} {y:Nat→Option Bool} (h:o.guard=none):Region.wanted o y=true:=by simp [Region.wanted,h]
theorem wanted_yes {o:Oper} {y:Nat→Option Bool} {i:Nat} {b:Bool} (h:o.guard=some (i,b)) (hy:y i=some b):Region.wanted o y=true:=by simp [Region.wanted,h,hy]
end
section
open Go.RowKit Go.Joins
def Own (e:TypeId) (w:World) (base g:Nat) (v:Value) (xs:List Value):Prop:=
 ∃ cap cur fz,v=.slice (some ⟨g,0,none⟩) xs.length cap∧base≤g∧w.heap[g]?=some (.cells cur e fz)∧(fz.2=0∨cap≤fz.1)∧xs.length≤cap∧cap≤maxLen∧cur.size=cap∧cur.toList.take xs.length=xs
section
variable {e:TypeId} {w w':World} {base g:Nat} {v:Value} {xs:List Value}
theorem Own.form (h:Own e w base g v xs):∃ cap,v=.slice (some ⟨g,0,none⟩) xs.length cap:=by
 obtain⟨cap,cur,fz,hv,_⟩:=h
 exact⟨cap,hv⟩
theorem Own.base_le (h:Own e w base g v xs):base≤g:=by
 obtain⟨cap,cur,fz,_,hb,_⟩:=h
 exact hb
theorem Own.lt (h:Own e w base g v xs):g < w.heap.size:=by
 obtain⟨cap,cur,fz,_,_,hg,_⟩:=h
 rcases Nat.lt_or_ge g w.heap.size with k | k
 ·exact k
 ·rw[Array.getElem?_eq_none k] at hg; cases hg
theorem Own.keep (h:Own e w base g v xs) (hk:w'.heap[g]?=w.heap[g]?):Own e w' base g v xs:=by
 obtain⟨cap,cur,fz,h1,h2,h3,h4⟩:=h
 exact⟨cap,cur,fz,h1,h2,hk.trans h3,h4⟩
theorem Own.alloc (h:Own e w base g v xs) (o:Obj):Own e (w.alloc o) base g v xs:=h.keep (Below.heap_alloc w o g h.lt)
theorem Own.drewN (h:Own e w base g v xs) (n:Nat):Own e (w.drewN n) base g v xs:=h.keep rfl
theorem Own.below {B:Nat} (h:Own e w base g v xs) (hb:Below B w w') (hg:g < B):Own e w' base g v xs:=h.keep (hb.block g hg)
theorem Own.mono {b:Nat} (h:Own e w base g v xs) (hb:b≤base):Own e w b g v xs:=by
 obtain⟨cap,cur,fz,h1,h2,h3⟩:=h
 exact⟨cap,cur,fz,h1,Nat.le_trans hb h2,h3⟩
theorem Own.cell (h:Own e w base g v xs) (j:Nat) (hj:j < xs.length):w.cell? ⟨g,j,none⟩=some xs[j]:=by
 obtain⟨cap,cur,fz,_,_,hg,_,_,_,_,ht⟩:=h
 have e1:w.cell? ⟨g,j,none⟩=cur[j]?:=cell_of_block hg j
 rw[e1]
 have e2:(cur.toList.take xs.length)[j]?=cur[j]?:=by
  rw[List.getElem?_take,if_pos hj]
  simp
 rw[← e2,ht,List.getElem?_eq_getElem hj]
theorem Own.free (h:Own e w base g v xs) (j:Nat) (hj:j < xs.length):w.frozen? ⟨g,j,none⟩=false:=by
 obtain⟨cap,cur,fz,_,_,hg,hf,hn,_⟩:=h
 obtain⟨lo,hi⟩:=fz
 simp only [World.frozen?,hg]
 simp only at hf
 rw[Bool.and_eq_false_iff]
 rcases hf with hf | hf
 ·right; simp; omega
 ·left; simp; omega
theorem Own.set (h:Own e w base g v xs) (j:Nat) (_hj:j < xs.length) (u:Value):Own e (w.setCell ⟨g,j,none⟩ u) base g v (xs.set j u):=by
 obtain⟨cap,cur,fz,h1,h2,hg,h4,h5,h6,h7,ht⟩:=h
 refine⟨cap,cur.setIfInBounds j u,fz,?_,h2,block_setCell (i:=j) hg u,h4,?_,h6,?_,?_⟩
 ·rw[List.length_set]; exact h1
 ·rw[List.length_set]; exact h5
 ·simpa using h7
 ·rw[List.length_set,Array.toList_setIfInBounds,List.take_set,ht]
theorem own_of_ownsRow {n:Nat} {b:Nat} (h:w.ownsRow b e 1 v n xs) (hn:0 < n):∃ g,b≤g∧Own e w b g v xs:=by
 obtain⟨hl,hh⟩:=h
 have hl':xs.length=n:=by simpa using hl
 rcases hh with ⟨_,h0⟩ | ⟨g,cap,cur,hv,hb,hg,hnc,hcm,hcs,ht⟩
 ·omega
 ·refine⟨g,hb,cap,cur,(0,0),by rw [hl']; exact hv,hb,hg,.inl rfl,by omega,hcm,by simpa using hcs,?_⟩
  rw[hl']; simpa using ht
variable {P:Program}
theorem run_append1 (t ty:TypeId) (i:TypeInfo) (z:Value) (bytes:Nat) (ht:P.underlying t=some (.slice e)) (hi:P.info? e=some i) (hz:i.zero=some z) (hs1:i.size=1) (hby:i.bytes=bytes) (hzs:z.cells.size=1)
  (h:Own e w base g v xs) (ad:Addr) (c:Nat) (x:Value) (hx:w.cell? ad=some x) (hspot:ad.spot=none) (h1:x.oneCell'=true) (h63:xs.length+1≤maxLen) (hbytes:(xs.length+1) * bytes≤140737488355328):
  ∃ g' v' w',(Builtin.append_ #[t,t] ty #[v,.slice (some ad) 1 c]).run P w=.ok v' w'∧Own e w' base g' v' (xs ++ [x])∧(g'=g∨w.heap.size≤g')∧w.grownBy w' (some g):=by
 have hlt:=h.lt
 obtain⟨cap,cur,fz,hv,hb,hg,hf,hn,hcm,hcs,htk⟩:=id h
 have hnews:∀ (j:Nat) (u:Value),[x][j]?=some u→w.cell? (ad.add j)=some u:=by
  intro j u hj
  match j,hj with
  | 0,hj=>
   simp at hj
   subst hj
   obtain⟨ab,ao,asp⟩:=ad
   simp only at hspot
   subst hspot
   simpa [Addr.add] using hx
 subst hv
 by_cases hroom:xs.length+1≤cap
 ·have hc:∀ j,j < [x].length→(w.cell? ⟨g,0+xs.length * i.size+j,none⟩).isSome=true:=by
   intro j hj
   have:j=0:=by simpa using hj
   subst this
   rw[hs1,show 0+xs.length * 1+0=xs.length by omega,cell_of_block hg,Array.getElem?_eq_getElem (by omega)]
   rfl
  have hfz:∀ j,j < [x].length→w.frozen? ⟨g,0+xs.length * i.size+j,none⟩=false:=by
   intro j hj
   have:j=0:=by simpa using hj
   subst this
   rw[hs1,show 0+xs.length * 1+0=xs.length by omega]
   obtain⟨lo,hi'⟩:=fz
   simp only [World.frozen?,hg]
   simp only at hf
   rw[Bool.and_eq_false_iff]
   rcases hf with hf | hf
   ·right; simp; omega
   ·left; simp; omega
  have hr:=run_append_room_cells (P:=P) w t ty e i ht hi g 0 xs.length cap ad 1 c [x] (by simp [hs1]) hnews (by simpa using h1) hroom hc hfz
  rw[hs1,show 0+xs.length * 1=xs.length by omega] at hr
  refine⟨g,_,_,hr,?_,.inl rfl,?_⟩
  ·show Own e (w.setCell ⟨g,xs.length,none⟩ x) base g _ _
   refine⟨cap,cur.setIfInBounds xs.length x,fz,by simp,hb,block_setCell (i:=xs.length) hg x,hf,by simpa using hroom,hcm,by simpa using hcs,?_⟩
   rw[Array.toList_setIfInBounds]
   rw[List.length_append,List.length_singleton]
   have hlen:xs.length < cur.toList.length:=by simp; omega
   rw[List.take_succ_eq_append_getElem (by simpa using hlen)]
   rw[List.take_set,List.getElem_set_self]
   rw[htk,List.set_eq_of_length_le (by omega)]
  ·show w.grownBy (w.setCell ⟨g,xs.length,none⟩ x) (some g)
   refine⟨rfl,rfl,rfl,by simp,fun k hk hne=>?_⟩
   exact Below.heap_setCell w _ _ k (by simpa using hne)
 ·obtain⟨v',w',hrun,r1,r2⟩:=run_append_arg_grows (P:=P) w t ty e i z 1 bytes ht hi hz hs1 hby hzs (by decide) ⟨g,0,none⟩ xs.length cap xs (by simp) (fun j u hj=>by
   have hj':j < xs.length:=by
    rcases Nat.lt_or_ge j xs.length with k | k
    ·exact k
    ·rw[List.getElem?_eq_none k] at hj; cases hj
   rw[List.getElem?_eq_getElem hj'] at hj
   have:=h.cell j hj'
   rw[Addr.add_lit,Nat.zero_add,this,hj]) ad 1 c [x] (by simp) hnews (by omega) h63 hbytes
  obtain⟨g',hg',ho⟩:=own_of_ownsRow r1 (by omega)
  refine⟨g',v',w',hrun,ho.mono ?_,.inr hg',?_⟩
  ·omega
  ·obtain⟨a1,a2,a3,a4,a5⟩:=r2
   exact⟨a1,a2,a3,a4,fun k hk _=>a5 k hk (by simp)⟩
theorem wpList_append1 {ops:Array Oper} {rest:List Oper} {o:Oper} {a:Act} {Q:Exit→Act→World→Prop} (hgd:o.guard=none) (s y:Operand) (t:TypeId)
  (hop:o.op=.call { callee:=.builtin .append,args:=#[s,y],argTypes:=#[t,t] })
  (i:TypeInfo) (z:Value) (bytes:Nat) (ht:P.underlying t=some (.slice e)) (hi:P.info? e=some i) (hz:i.zero=some z) (hs1:i.size=1) (hby:i.bytes=bytes) (hzs:z.cells.size=1)
  (hs:a.eval s=v) (h:Own e w base g v xs) (ad:Addr) (c:Nat) (x:Value) (hy:a.eval y=.slice (some ad) 1 c) (hx:w.cell? ad=some x) (hspot:ad.spot=none) (h1:x.oneCell'=true) (h63:xs.length+1≤maxLen) (hbytes:(xs.length+1) * bytes≤140737488355328)
  (hK:∀ g' v' w',Own e w' base g' v' (xs ++ [x])→(g'=g∨w.heap.size≤g')→w.grownBy w' (some g)→wpList P ops Q rest (a.put o.dst v') w'):wpList P ops Q (o :: rest) a w:=by
 refine wpList_plain hgd fun K hK'=>?_
 obtain⟨g',v',w',hrun,r1,r2,r3⟩:=run_append1 (P:=P) t o.type i z bytes ht hi hz hs1 hby hzs h ad c x hx hspot h1 h63 hbytes
 unfold Oper.wp
 simp[execOp,hop,resolve,invoke,builtin,hs,hy,hrun,Result.andThen]
 exact hK' _ _ (hK g' v' w' r1 r2 r3)
end
end
section
open Go.RowKit Go.Joins
def IsRow (k:IntKind) (w:World) (a:Option Addr) (len cap:Nat) (zs:List Int):Prop:=
 (a=none∧len=0∧cap=0∧zs=[])∨
 ∃ x,a=some x∧len≤cap∧cap≤maxLen∧zs.length=cap∧(∀ i,i < zs.length→w.cell? (x.add i)=some (.int k (zs.getD i 0)))∧∀ n∈zs,(Lit.int k n).wf=true
end
section
open Go.RowKit Go.Joins
def fints (f:Nat→Int) (n:Nat):List Value:=(List.range n).map fun i=>.int .i64 (f i)
def upd (f:Nat→Int) (j:Nat) (x:Int):Nat→Int:=fun i=>if i=j then x else f i
theorem fints_length (f:Nat→Int) (n:Nat):(fints f n).length=n:=by simp [fints]
theorem fints_get (f:Nat→Int) (n j:Nat) (h:j < (fints f n).length):(fints f n)[j]=.int .i64 (f j):=by simp [fints]
theorem fints_congr {f g:Nat→Int} {n:Nat} (h:∀ i,i < n→f i=g i):fints f n=fints g n:=by
 unfold fints
 refine List.map_congr_left fun i hi=>?_
 rw[h i (List.mem_range.mp hi)]
theorem fints_set (f:Nat→Int) (n j:Nat) (x:Int):(fints f n).set j (.int .i64 x)=fints (upd f j x) n:=by
 refine List.ext_getElem (by simp [fints]) fun i h1 h2=>?_
 rw[List.getElem_set,fints_get (upd f j x)]
 by_cases hij:j=i
 ·subst hij
  rw[if_pos rfl]
  simp[upd]
 ·have hji:¬ i=j:=fun h=>hij h.symm
  rw[if_neg hij,fints_get]
  simp[upd,hji]
def IOwn (w:World) (base g n cap:Nat) (f:Nat→Int):Prop:=Own 3 w base g (.slice (some ⟨g,0,none⟩) n cap) (fints f n)
section
variable {w w':World} {base g n cap:Nat} {f:Nat→Int}
theorem IOwn.lt (h:IOwn w base g n cap f):g < w.heap.size:=Own.lt h
theorem IOwn.base_le (h:IOwn w base g n cap f):base≤g:=Own.base_le h
theorem IOwn.cell (h:IOwn w base g n cap f) (j:Nat) (hj:j < n):w.cell? ⟨g,j,none⟩=some (.int .i64 (f j)):=by
 have h':j < (fints f n).length:=by rw [fints_length]; exact hj
 rw[Own.cell h j h',fints_get]
theorem IOwn.free (h:IOwn w base g n cap f) (j:Nat) (hj:j < n):w.frozen? ⟨g,j,none⟩=false:=Own.free h j (by rw [fints_length]; exact hj)
theorem IOwn.set (h:IOwn w base g n cap f) (j:Nat) (hj:j < n) (x:Int):IOwn (w.setCell ⟨g,j,none⟩ (.int .i64 x)) base g n cap (upd f j x):=by
 have k:=Own.set h j (by rw [fints_length]; exact hj) (.int .i64 x)
 rw[fints_set] at k
 exact k
theorem IOwn.congr {f':Nat→Int} (h:IOwn w base g n cap f) (e:∀ i,i < n→f i=f' i):IOwn w base g n cap f':=by
 unfold IOwn at h ⊢
 rw[← fints_congr e]
 exact h
theorem IOwn.keep (h:IOwn w base g n cap f) (hk:w'.heap[g]?=w.heap[g]?):IOwn w' base g n cap f:=Own.keep h hk
theorem IOwn.alloc (h:IOwn w base g n cap f) (o:Obj):IOwn (w.alloc o) base g n cap f:=Own.alloc h o
theorem IOwn.drew (h:IOwn w base g n cap f):IOwn w.drew base g n cap f:=Own.drewN h 1
theorem IOwn.below {B:Nat} (h:IOwn w base g n cap f) (hb:Below B w w') (hg:g < B):IOwn w' base g n cap f:=Own.below h hb hg
theorem IOwn.called (h:IOwn w base g n cap f) (hb:Below w.heap.size w w'):IOwn w' base g n cap f:=Own.below h hb h.lt
theorem IOwn.mono {b:Nat} (h:IOwn w base g n cap f) (hb:b≤base):IOwn w b g n cap f:=Own.mono h hb
theorem IOwn.grown {row:Option Nat} (h:IOwn w base g n cap f) (hg:w.grownBy w' row) (hne:row≠some g):IOwn w' base g n cap f:=h.keep (hg.block g h.lt (Ne.symm hne))
theorem made_ints (n:Nat):(madeCells #[Value.int .i64 0] n).toList=fints (fun _=>0) n:=by
 unfold madeCells fints
 rw[Array.toList_map,Array.toList_range]
 refine List.map_congr_left fun i _=>?_
 simp[Nat.mod_one]
theorem IOwn.made (w:World) (n:Nat) (hn:n≤maxLen) (hb:base≤w.heap.size):IOwn (w.alloc (.cells (madeCells #[Value.int .i64 0] n) 3)) base w.heap.size n n (fun _=>0):=by
 refine⟨n,madeCells #[Value.int .i64 0] n,(0,0),by rw [fints_length],hb,heap_alloc_new w _,.inl rfl,by rw [fints_length]; exact Nat.le_refl _,hn,by simp [madeCells],?_⟩
 rw[made_ints,fints_length,List.take_of_length_le (by rw [fints_length]; exact Nat.le_refl _)]
end
def Came (w:World) (a:Option Addr) (n:Nat) (f:Nat→Int):Prop:=
 n=0∨∃ g off,a=some ⟨g,off,none⟩∧g < w.heap.size∧∀ j,j < n→w.cell? ⟨g,off+j,none⟩=some (.int .i64 (f j))
theorem Came.called {w w':World} {a:Option Addr} {n:Nat} {f:Nat→Int} (h:Came w a n f) (hb:Below w.heap.size w w'):Came w' a n f:=by
 rcases h with h | ⟨g,off,ha,hg,hc⟩
 ·exact .inl h
 ·exact .inr ⟨g,off,ha,Nat.lt_of_lt_of_le hg hb.size,fun j hj=>(hb.cell (p:=⟨g,off+j,none⟩) hg).trans (hc j hj)⟩
def SL (w:World) (base:Nat) (a:Option Addr) (n cap:Nat) (f:Nat→Int):Prop:=n=0∨∃ g,a=some ⟨g,0,none⟩∧IOwn w base g n cap f
theorem SL.came {w:World} {base:Nat} {a:Option Addr} {n cap:Nat} {f:Nat→Int} (h:SL w base a n cap f):Came w a n f:=by
 rcases h with h | ⟨g,rfl,h⟩
 ·exact .inl h
 ·exact .inr ⟨g,0,rfl,h.lt,fun j hj=>by rw [Nat.zero_add]; exact h.cell j hj⟩
theorem SL.called {w w':World} {base:Nat} {a:Option Addr} {n cap:Nat} {f:Nat→Int} (h:SL w base a n cap f) (hb:Below w.heap.size w w'):SL w' base a n cap f:=by
 rcases h with h | ⟨g,rfl,h⟩
 ·exact .inl h
 ·exact .inr ⟨g,rfl,h.called hb⟩
theorem IOwn.sl {w:World} {base g n cap:Nat} {f:Nat→Int} (h:IOwn w base g n cap f):SL w base (some ⟨g,0,none⟩) n cap f:=.inr ⟨g,rfl,h⟩
theorem Came.grown {w w':World} {a:Option Addr} {n B:Nat} {f:Nat→Int} {row:Option Nat} (h:Came w a n f) (hB:∀ g off,a=some ⟨g,off,none⟩→g < B) (hr:∀ k,row=some k→B≤k) (hg:w.grownBy w' row):Came w' a n f:=by
 rcases h with h | ⟨g,off,ha,hlt,hc⟩
 ·exact .inl h
 ·refine .inr ⟨g,off,ha,Nat.lt_of_lt_of_le hlt hg.size,fun j hj=>?_⟩
  have hne:some g≠row:=fun e=>by have h1:=hB g off ha; have h2:=hr g e.symm; omega
  have hb:=hg.block g hlt hne
  rw[← hc j hj]
  unfold World.cell?
  rw[hb]
theorem came_of_row {w:World} {a:Option Addr} {len cap:Nat} {zs:List Int} (h:IsRow .i64 w a len cap zs):Came w a len (fun j=>zs.getD j 0)∧len≤maxLen∧∀ i,i < len→(Lit.int .i64 (zs.getD i 0)).wf=true:=by
 rcases h with ⟨_,rfl,rfl,_⟩ | ⟨x,rfl,hl,hm,hz,hc,hw⟩
 ·exact⟨.inl rfl,Nat.zero_le _,fun i hi=>absurd hi (Nat.not_lt_zero i)⟩
 ·refine⟨?_,by omega,fun i hi=>hw _ ?_⟩
  ·rcases Nat.eq_zero_or_pos len with h0 | h0
   ·exact .inl h0
   ·obtain⟨b,off,spot⟩:=x
    have h1:=hc 0 (by omega)
    have hspot:spot=none:=by simpa [Addr.add] using World.cell?_spot h1
    subst hspot
    have hadd:∀ j,(⟨b,off,none⟩:Addr).add j=⟨b,off+j,none⟩:=fun j=>Addr.add_lit _ _ _
    refine .inr ⟨b,off,rfl,?_,fun j hj=>?_⟩
    ·rw[hadd] at h1
     exact World.block_lt_of_cell? w _ h1
    ·have h2:=hc j (by omega)
     rw[hadd] at h2
     exact h2
  ·rw[List.getD_eq_getElem?_getD,List.getElem?_eq_getElem (by omega)]
   exact List.getElem_mem _
end
section
namespace OutMath
def p2 (n:Nat):Int:=2 ^ n
theorem p2_zero:p2 0=1:=by simp [p2]
theorem p2_succ (n:Nat):p2 (n+1)=2 * p2 n:=by unfold p2; rw [Int.pow_succ]; omega
theorem p2_pos:∀ n,1≤p2 n
 | 0=>by simp [p2]
 | n+1=>by have:=p2_pos n; rw [p2_succ]; omega
theorem p2_mono (n:Nat):∀ m,p2 n≤p2 (n+m)
 | 0=>by simp
 | m+1=>by have:=p2_mono n m; have h:=p2_pos (n+m); rw [← Nat.add_assoc,p2_succ]; omega
theorem p2_le {n m:Nat} (h:n≤m):p2 n≤p2 m:=by
 obtain⟨k,rfl⟩:=Nat.exists_eq_add_of_le h
 exact p2_mono n k
theorem p2_61 {n:Nat} (h:n≤61):p2 n≤2305843009213693952:=by
 have h1:=p2_le h
 have h2:p2 61=2305843009213693952:=by decide +kernel
 omega
def last (s:ByteArray):Nat:=(s.data[s.size - 1]?.getD 0).toNat
end OutMath
end
section
namespace BigMath
def rb (s:ByteArray) (a:Nat):Nat→Int
 | 0=>0
 | k+1=>256 * rb s a k+((s.data[a+k]?.getD 0).toNat:Int)
end BigMath
end
section
namespace BigTextMath
def q256:Nat→Int
 | 0=>1
 | n+1=>q256 n * 256
def low (n:Int):Nat→List Int
 | 0=>[]
 | k+1=>(n / q256 k % 256) :: low n k
end BigTextMath
end
section
namespace TakeMath
open OutMath
def byteAt (s:ByteArray) (i:Nat):Nat:=(s.data[i]?.getD 0).toNat
theorem byteAt_get (s:ByteArray) (i:Nat) (h:i < s.size):(s[i]'h).toNat=byteAt s i:=by
 unfold byteAt
 have h':i < s.data.size:=h
 rw[Array.getElem?_eq_getElem h']
 rfl
end TakeMath
end
section
namespace RastMath
def chan (c:Int):Int:=if c=0∨c=3 then 1 else if c=2 then 3 else if c=4 then 2 else if c=6 then 4 else 0
abbrev Five (d:Int):Prop:=d=1∨d=2∨d=4∨d=8∨d=16
abbrev DepthR (c d:Int):Prop:=(c=0∧Five d)∨(c=3∧Five d∧d≠16)∨((c=2∨c=4∨c=6)∧(d=8∨d=16))
abbrev SideR (n:Int):Prop:=1≤n∧n≤24
theorem chan_range (c:Int):0≤chan c∧chan c≤4:=by
 unfold chan
 repeat' split
 all_goals omega
theorem chan_pos {c d:Int} (h:DepthR c d):1≤chan c:=by
 unfold chan
 rcases h with ⟨rfl,_⟩ | ⟨rfl,_⟩ | ⟨rfl | rfl | rfl,_⟩ <;> decide
theorem depth_five {c d:Int} (h:DepthR c d):Five d:=by
 rcases h with ⟨_,h⟩ | ⟨_,h,_⟩ | ⟨_,h⟩
 ·exact h
 ·exact h
 ·exact .inr (.inr (.inr h))
theorem five_range {d:Int} (h:Five d):1≤d∧d≤16:=by
 unfold Five at h
 omega
end RastMath
end
section
namespace CrcMath
def byteAt (s:ByteArray) (i:Nat):Nat:=(s.data[i]?.getD 0).toNat
theorem byteAt_get (s:ByteArray) (i:Nat) (h:i < s.size):(s[i]'h).toNat=byteAt s i:=by
 unfold byteAt
 have h':i < s.data.size:=h
 rw[Array.getElem?_eq_getElem h']
 rfl
end CrcMath
end
section
namespace ChunkMath
open Go.RowKit OutMath BigMath BigTextMath CrcMath
abbrev LetterR (b:Nat):Prop:=65≤b∧b≤90∨97≤b∧b≤122
abbrev NameR (n:ByteArray):Prop:=n.size=4∧LetterR (byteAt n 0)∧LetterR (byteAt n 1)∧LetterR (byteAt n 2)∧LetterR (byteAt n 3)∧byteAt n 2≤90
abbrev Chk:=ByteArray×ByteArray
theorem bx_ext {a b:ByteArray} (h:a.data.toList=b.data.toList):a=b:=by
 obtain⟨x⟩:=a
 obtain⟨y⟩:=b
 congr 1
 exact Array.ext' h
theorem bx_app (a b:ByteArray):(a ++ b).data.toList=a.data.toList ++ b.data.toList:=by
 obtain⟨x⟩:=a
 obtain⟨y⟩:=b
 show (ByteArray.mk x ++ ByteArray.mk y).data.toList=_
 simp
theorem bx_len (a:ByteArray):a.data.toList.length=a.size:=by simp
theorem bx_size (a b:ByteArray):(a ++ b).size=a.size+b.size:=by rw [← bx_len,bx_app,List.length_append,bx_len,bx_len]
end ChunkMath
end
section
namespace HeadMath
open Go.RowKit OutMath BigMath BigTextMath RastMath
abbrev Rgb3:=Int×Int×Int
abbrev HeadR (x y d c:Int):Prop:=SideR x∧SideR y∧DepthR c d
def tb (t:ByteArray) (i:Nat):Nat:=(t.data[i]?.getD 0).toNat
def hx (t:ByteArray):Int:=rb t 0 4
def hy (t:ByteArray):Int:=rb t 4 4
def hd (t:ByteArray):Int:=(tb t 8:Int)
def hc (t:ByteArray):Int:=(tb t 9:Int)
def hl (t:ByteArray):Bool:=(tb t 12:Int) == 1
abbrev RgbR (c:Rgb3):Prop:=(0≤c.1∧c.1≤255)∧(0≤c.2.1∧c.2.1≤255)∧(0≤c.2.2∧c.2.2≤255)
def colN (F:Nat→Rgb3):Nat→List Int
 | 0=>[]
 | n+1=>colN F n ++ [(F n).1,(F n).2.1,(F n).2.2]
theorem colN_next (F:Nat→Rgb3) (n:Nat):colN F (n+1)=colN F n ++ [(F n).1,(F n).2.1,(F n).2.2]:=rfl
theorem colN_length (F:Nat→Rgb3):∀ n,(colN F n).length=3 * n
 | 0=>rfl
 | n+1=>by rw [colN_next,List.length_append,colN_length F n]; rfl
def tableT (F:Nat→Rgb3) (n:Nat):ByteArray:=strOfNums (colN F n)
def TableR (F:Nat→Rgb3) (n:Nat):Prop:=(1≤n∧n≤256)∧∀ i,i < n→RgbR (F i)
end HeadMath
end
section
open Go.RowKit Go.Joins HeadMath
theorem info_rgb:(Tryz.prog.info? 74).map (fun i=>(i.zero,i.size,i.bytes))=some (some (.agg #[.int .i64 0,.int .i64 0,.int .i64 0]),3,24):=by kernel_rfl
def rgbTcells:List Rgb3→List Value
 | []=>[]
 | c :: l=>.int .i64 c.1 :: .int .i64 c.2.1 :: .int .i64 c.2.2 :: rgbTcells l
theorem rgbTcells_length:∀ l:List Rgb3,(rgbTcells l).length=l.length * 3
 | []=>rfl
 | c :: l=>by
  show (rgbTcells l).length+1+1+1=(l.length+1) * 3
  rw[rgbTcells_length l]
  omega
theorem rgbTcells_app:∀ xs ys:List Rgb3,rgbTcells (xs ++ ys)=rgbTcells xs ++ rgbTcells ys
 | [],ys=>rfl
 | c :: l,ys=>by
  show Value.int .i64 c.1 :: .int .i64 c.2.1 :: .int .i64 c.2.2 :: rgbTcells (l ++ ys)=Value.int .i64 c.1 :: .int .i64 c.2.1 :: .int .i64 c.2.2 :: (rgbTcells l ++ rgbTcells ys)
  rw[rgbTcells_app l ys]
theorem rgbTcells_get:∀ (l:List Rgb3) (i:Nat),i < l.length→(rgbTcells l)[i * 3]?=some (.int .i64 (l.getD i (0,0,0)).1)∧(rgbTcells l)[i * 3+1]?=some (.int .i64 (l.getD i (0,0,0)).2.1)∧(rgbTcells l)[i * 3+2]?=some (.int .i64 (l.getD i (0,0,0)).2.2)
 | [],i,h=>by simp at h
 | c :: l,0,_=>⟨rfl,rfl,rfl⟩
 | c :: l,i+1,h=>by
  have q:=rgbTcells_get l i (by simpa using h)
  rw[show (i+1) * 3=i * 3+1+1+1 by omega]
  exact q
theorem rgbTcells_one:∀ (l:List Rgb3),∀ u∈rgbTcells l,u.oneCell'=true
 | [],u,h=>by cases h
 | c :: l,u,h=>by
  rcases List.mem_cons.mp h with rfl | h
  ·rfl
  ·rcases List.mem_cons.mp h with rfl | h
   ·rfl
   ·rcases List.mem_cons.mp h with rfl | h
    ·rfl
    ·exact rgbTcells_one l u h
def RgbCame (w:World) (a:Option Addr) (n:Nat) (F:Nat→Rgb3):Prop:=
 n=0∨∃ g off,a=some ⟨g,off,none⟩∧g < w.heap.size∧∀ j,j < n→w.cell? ⟨g,off+j * 3,none⟩=some (.int .i64 (F j).1)∧w.cell? ⟨g,off+j * 3+1,none⟩=some (.int .i64 (F j).2.1)∧w.cell? ⟨g,off+j * 3+2,none⟩=some (.int .i64 (F j).2.2)
theorem RgbCame.called {w w':World} {a:Option Addr} {n:Nat} {F:Nat→Rgb3} (h:RgbCame w a n F) (hb:Below w.heap.size w w'):RgbCame w' a n F:=by
 rcases h with h | ⟨g,off,ha,hg,hc⟩
 ·exact .inl h
 ·exact .inr ⟨g,off,ha,Nat.lt_of_lt_of_le hg hb.size,fun j hj=>⟨(hb.cell (p:=⟨g,off+j * 3,none⟩) hg).trans (hc j hj).1,(hb.cell (p:=⟨g,off+j * 3+1,none⟩) hg).trans (hc j hj).2.1,(hb.cell (p:=⟨g,off+j * 3+2,none⟩) hg).trans (hc j hj).2.2⟩⟩
theorem RgbCame.congr {w:World} {a:Option Addr} {n:Nat} {F G:Nat→Rgb3} (h:RgbCame w a n F) (e:∀ j,j < n→F j=G j):RgbCame w a n G:=by
 rcases h with h | ⟨g,off,ha,hg,hc⟩
 ·exact .inl h
 ·exact .inr ⟨g,off,ha,hg,fun j hj=>by rw [← e j hj]; exact hc j hj⟩
def RgbOwn (w:World) (base g n:Nat) (F:Nat→Rgb3):Prop:=base≤g∧∃ cur,w.heap[g]?=some (.cells cur 74 (0,0))∧n * 3≤cur.size∧∀ j,j < n→cur[j * 3]?=some (.int .i64 (F j).1)∧cur[j * 3+1]?=some (.int .i64 (F j).2.1)∧cur[j * 3+2]?=some (.int .i64 (F j).2.2)
theorem RgbOwn.lt {w:World} {base g n:Nat} {F:Nat→Rgb3} (h:RgbOwn w base g n F):g < w.heap.size:=by
 obtain⟨_,cur,h2,_⟩:=h
 exact block_lt h2
theorem RgbOwn.keep {w w':World} {base g n:Nat} {F:Nat→Rgb3} (h:RgbOwn w base g n F) (hk:w'.heap[g]?=w.heap[g]?):RgbOwn w' base g n F:=by
 obtain⟨h1,cur,h2,h3⟩:=h
 exact⟨h1,cur,hk.trans h2,h3⟩
theorem RgbOwn.called {w w':World} {base g n:Nat} {F:Nat→Rgb3} (h:RgbOwn w base g n F) (hb:Below w.heap.size w w'):RgbOwn w' base g n F:=h.keep (hb.block g h.lt)
theorem RgbOwn.came {w:World} {base g n:Nat} {F:Nat→Rgb3} (h:RgbOwn w base g n F):RgbCame w (some ⟨g,0,none⟩) n F:=by
 refine .inr ⟨g,0,rfl,h.lt,fun j hj=>?_⟩
 obtain⟨_,cur,h2,h3,h4⟩:=h
 rw[Nat.zero_add,cell_of_block h2,cell_of_block h2,cell_of_block h2]
 exact h4 j hj
theorem rgbTcame_of_own {w:World} {S n:Nat} {v:Value} {L:List Rgb3} (h:w.ownsRow S 74 3 v n (rgbTcells L)) (hn:n=L.length):∃ a c,v=.slice a L.length c∧L.length≤c∧c≤maxLen∧(a=none→c=0)∧RgbCame w a L.length (fun j=>L.getD j (0,0,0))∧(∀ ad,a=some ad→∃ g,ad=⟨g,0,none⟩∧S≤g):=by
 subst hn
 rcases h.2 with ⟨rfl,h0⟩ | ⟨g,cap,cur,rfl,hb,hg,hc,hm,hs,ht⟩
 ·exact⟨none,0,by rw [h0],by omega,Nat.zero_le _,fun _=>rfl,.inl h0,fun ad e=>by cases e⟩
 ·refine⟨_,cap,rfl,hc,hm,(fun e=>by cases e),.inr ⟨g,0,rfl,block_lt hg,fun j hj=>?_⟩,fun ad e=>by cases e; exact⟨g,rfl,hb⟩⟩
  have q:=rgbTcells_get L j hj
  rw[Nat.zero_add,h.cellAt (j * 3) (by omega),h.cellAt (j * 3+1) (by omega),h.cellAt (j * 3+2) (by omega)]
  exact q
theorem rgb_called {w w':World} {S n:Nat} {v:Value} {L:List Rgb3} (h:w.ownsRow S 74 3 v n (rgbTcells L)) (hb:Below w.heap.size w w'):w'.ownsRow S 74 3 v n (rgbTcells L):=by
 refine⟨h.1,?_⟩
 rcases h.2 with h | ⟨g,cap,cur,rfl,h1,h2,h3⟩
 ·exact .inl h
 ·exact .inr ⟨g,cap,cur,rfl,h1,(hb.block g (block_lt h2)).trans h2,h3⟩
end
section
open Go.RowKit Go.Joins
theorem info_chk:(Tryz.prog.info? 93).map (fun i=>(i.zero,i.size,i.bytes))=some (some (.agg #[.string ByteArray.empty,.string ByteArray.empty]),2,32):=by kernel_rfl
def kcells:List (ByteArray×ByteArray)→List Value
 | []=>[]
 | c :: l=>.string c.1 :: .string c.2 :: kcells l
theorem dcells_length:∀ l:List (ByteArray×ByteArray),(kcells l).length=l.length * 2
 | []=>rfl
 | c :: l=>by
  show (kcells l).length+1+1=(l.length+1) * 2
  rw[dcells_length l]
  omega
theorem dcells_app:∀ xs ys:List (ByteArray×ByteArray),kcells (xs ++ ys)=kcells xs ++ kcells ys
 | [],ys=>rfl
 | c :: l,ys=>by
  show Value.string c.1 :: .string c.2 :: kcells (l ++ ys)=Value.string c.1 :: .string c.2 :: (kcells l ++ kcells ys)
  rw[dcells_app l ys]
theorem dcells_get0:∀ (l:List (ByteArray×ByteArray)) (i:Nat),i < l.length→(kcells l)[i * 2]?=some (.string (l.getD i (ByteArray.empty,ByteArray.empty)).1)
 | [],i,h=>by simp at h
 | c :: l,0,_=>rfl
 | c :: l,i+1,h=>by
  rw[show (i+1) * 2=i * 2+1+1 by omega]
  show (kcells l)[i * 2]?=some (.string (l.getD i (ByteArray.empty,ByteArray.empty)).1)
  exact dcells_get0 l i (by simpa using h)
theorem dcells_get1:∀ (l:List (ByteArray×ByteArray)) (i:Nat),i < l.length→(kcells l)[i * 2+1]?=some (.string ((l.getD i (ByteArray.empty,ByteArray.empty)).2))
 | [],i,h=>by simp at h
 | c :: l,0,_=>rfl
 | c :: l,i+1,h=>by
  rw[show (i+1) * 2+1=i * 2+1+1+1 by omega]
  show (kcells l)[i * 2+1]?=some (.string ((l.getD i (ByteArray.empty,ByteArray.empty)).2))
  exact dcells_get1 l i (by simpa using h)
theorem dcells_one:∀ (l:List (ByteArray×ByteArray)),∀ u∈kcells l,u.oneCell'=true
 | [],u,h=>by cases h
 | c :: l,u,h=>by
  rcases List.mem_cons.mp h with rfl | h
  ·rfl
  ·rcases List.mem_cons.mp h with rfl | h
   ·rfl
   ·exact dcells_one l u h
section
variable {w w':World} {B:Nat} {a:Option Addr} {c:Nat} {L:List (ByteArray×ByteArray)} {x:ByteArray×ByteArray}
end
theorem run_append_none_any {P:Program} {w:World} (base:Nat) (t ty e:TypeId) (i:TypeInfo) (size:Nat) (ht:P.underlying t=some (.slice e)) (hi:P.info? e=some i) (v:Value) (n c:Nat) (xs:List Value) (hown:w.ownsRow base e size v n xs):
  (Builtin.append_ #[t,t] ty #[v,.slice none 0 c]).run P w=.ok v w:=by
 rcases hown.2 with ⟨rfl,rfl⟩ | ⟨g,cap,cur,rfl,_,_,hnc,_⟩
 ·simp[Builtin.append_,run_underlying ht,sizeOf,typeInfo,hi,Builtin.lenOf,Builtin.firstCells]
 ·simp[Builtin.append_,run_underlying ht,sizeOf,typeInfo,hi,Builtin.lenOf,Builtin.firstCells,hnc,storeCells]
theorem append_none_any {P:Program} {w:World} {ops:Array Oper} {rest:List Oper} {o:Oper} {a:Act} {Q:Exit→Act→World→Prop} (hgd:o.guard=none) (s x:Operand) (t:TypeId)
  (ho:o.op=.call { callee:=.builtin .append,args:=#[s,x],argTypes:=#[t,t] })
  (base:Nat) (e:TypeId) (i:TypeInfo) (size:Nat) (ht:P.underlying t=some (.slice e)) (hi:P.info? e=some i)
  (v:Value) (n c:Nat) (xs:List Value) (hs:a.eval s=v) (hown:w.ownsRow base e size v n xs) (hx:a.eval x=.slice none 0 c)
  (h:wpList P ops Q rest (a.put o.dst v) w):wpList P ops Q (o :: rest) a w:=by
 refine wpList_plain hgd fun K hK=>?_
 have hrun:=run_append_none_any (P:=P) (w:=w) base t o.type e i size ht hi v n c xs hown
 unfold Oper.wp
 simp[execOp,ho,resolve,invoke,builtin,hs,hx,hrun,Result.andThen]
 exact hK _ _ h
theorem chks_append {w:World} {S:Nat} {v:Value} {xs ys:List (ByteArray×ByteArray)} {ops:Array Oper} {rest:List Oper} {o:Oper} {a:Act} {Q:Exit→Act→World→Prop} (hgd:o.guard=none) (s x:Operand)
  (ho:o.op=.call { callee:=.builtin .append,args:=#[s,x],argTypes:=#[35,35] }) (hs:a.eval s=v) (h:w.ownsRow S 93 2 v xs.length (kcells xs)) (ao:Option Addr) (m c:Nat) (hx:a.eval x=.slice ao m c) (hm:ys.length=m)
  (hc:∀ ad,ao=some ad→∀ j u,(kcells ys)[j]?=some u→w.cell? (ad.add j)=some u) (hn:ao=none→m=0)
  (h63:xs.length+ys.length≤16777216) (hS:S≤w.heap.size)
  (hK:∀ v' w',w'.ownsRow S 93 2 v' (xs ++ ys).length (kcells (xs ++ ys))→w.grownBy w' v.ownBlock→wpList Tryz.prog ops Q rest (a.put o.dst v') w'):wpList Tryz.prog ops Q (o :: rest) a w:=by
 obtain⟨i0,hi0,hz0,hz1,hz2⟩:=info_parts info_chk
 cases ao with
 | none=>
  obtain rfl:=hn rfl
  obtain rfl:ys=[]:=List.eq_nil_of_length_eq_zero hm
  refine append_none_any hgd s x _ ho S 93 i0 2 Tryz.underlying35 hi0 v _ c _ hs h hx (hK v w (by simpa using h) ⟨rfl,rfl,rfl,Nat.le_refl _,fun _ _ _=>rfl⟩)
 | some ad=>
  refine wpList_append_own_at w hgd s x _ ho S 93 i0 _ 2 32 Tryz.underlying35 hi0 hz0 hz1 hz2 rfl (by omega) v _ _ hs h ad m c (kcells ys) hx (by rw [dcells_length,hm]) (hc ad rfl) (dcells_one ys) (by unfold maxLen; omega) (by omega) hS ?_
  intro v' w' hown hg _ _
  refine hK v' w' ?_ hg
  rw[List.length_append,dcells_app,hm]
  exact hown
end
end Go.Proofs.YtkpbfmdnjnohlaaGreat
