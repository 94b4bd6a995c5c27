/-
  Texts of the proof, put together.
-/
import Derived.Test.YtkpbfmdnjnohlaaGreatRows
import Derived.Lib.SmallJoins
import Derived.Deep.RegionHeld3
import Derived.Deep.AppendLies
import Derived.Laws.AppendOwnNone
import Derived.WalkLawsBesides
import Derived.Shelf.SlSortCmp.QuietGrown
import Derived.BigQuiet
namespace Go.Proofs.YtkpbfmdnjnohlaaGreat
section
theorem if_wanted {c A E:Prop} [Decidable c] (hc:c) (h:A):if c then A else E:=by rw [if_pos hc]; exact h
theorem wanted_none {o:Oper} {y:Nat→Option Bool} (h:o.guard=none):Region.wanted o y=true:=by simp [Region.wanted,h]
theorem wanted_yes {o:Oper} {y:Nat→Option Bool} {i:Nat} {b:Bool} (h:o.guard=some (i,b)) (hy:y i=some b):Region.wanted o y=true:=by simp [Region.wanted,h,hy]
end
section
open Go.Joins
section
variable {α:Type _}
theorem zga {xs:List α} {i:Nat} (h:i < xs.toArray.size):xs.toArray[i]=xs[i]'(by simpa using h):=List.getElem_toArray h
theorem zgb (a:α) (l:List α) (h:0 < (a :: l).length):(a :: l)[0]=a:=rfl
theorem zgc (a:α) (l:List α) (i:Nat) (h:i+1 < (a :: l).length):(a :: l)[i+1]=l[i]'(Nat.lt_of_succ_lt_succ h):=rfl
theorem zsa (l:List α) (i:Nat) (a:α):l.toArray.setIfInBounds i a=(l.set i a).toArray:=List.setIfInBounds_toArray l i a
theorem zsb {x:α} {xs:List α} {a:α}:(x :: xs).set 0 a=a :: xs:=rfl
theorem zsc {x:α} {xs:List α} {i:Nat} {a:α}:(x :: xs).set (i+1) a=x :: xs.set i a:=rfl
end
section
variable {w:World} {g:Nat} {A:Array Value} {t:TypeId} {fr:Nat×Nat}
theorem zqc (h:w.heap[g]?=some (.cells A t fr)):w.cell? ⟨g,0,none⟩=A[0]?∧w.cell? ⟨g,1,none⟩=A[1]?∧w.cell? ⟨g,2,none⟩=A[2]?∧w.cell? ⟨g,3,none⟩=A[3]?∧w.cell? ⟨g,4,none⟩=A[4]?∧w.cell? ⟨g,5,none⟩=A[5]?∧w.cell? ⟨g,6,none⟩=A[6]?∧w.cell? ⟨g,7,none⟩=A[7]?∧w.cell? ⟨g,8,none⟩=A[8]?∧w.cell? ⟨g,9,none⟩=A[9]?∧w.cell? ⟨g,10,none⟩=A[10]?∧w.cell? ⟨g,11,none⟩=A[11]?∧w.cell? ⟨g,12,none⟩=A[12]?:=⟨cell_of_block h 0,cell_of_block h 1,cell_of_block h 2,cell_of_block h 3,cell_of_block h 4,cell_of_block h 5,cell_of_block h 6,cell_of_block h 7,cell_of_block h 8,cell_of_block h 9,cell_of_block h 10,cell_of_block h 11,cell_of_block h 12⟩
theorem zqf (h:w.heap[g]?=some (.cells A t fr)):w.cell? ⟨g,0,none⟩=A[0]?∧w.cell? ⟨g,1,none⟩=A[1]?∧w.cell? ⟨g,2,none⟩=A[2]?∧w.cell? ⟨g,3,none⟩=A[3]?∧w.cell? ⟨g,4,none⟩=A[4]?:=⟨cell_of_block h 0,cell_of_block h 1,cell_of_block h 2,cell_of_block h 3,cell_of_block h 4⟩
theorem zqg (h:w.heap[g]?=some (.cells A t fr)):w.cell? ⟨g,7,none⟩=A[7]?∧w.cell? ⟨g,8,none⟩=A[8]?∧w.cell? ⟨g,9,none⟩=A[9]?∧w.cell? ⟨g,10,none⟩=A[10]?∧w.cell? ⟨g,11,none⟩=A[11]?:=⟨cell_of_block h 7,cell_of_block h 8,cell_of_block h 9,cell_of_block h 10,cell_of_block h 11⟩
end
end
section
open Go
section
variable {P:Program} {ops:Array Oper} {Q:Exit→Act→World→Prop} {md:Region.Mode} {S:World→Prop} {fuel:Nat} {listed:Array Bool} {a:Act} {w:World} {o:Oper}
theorem zqt (i:Nat) (v:Value) (hi:ops[i]?=some o) (hy:∀ w,S w→(execOp a.eval o).run P w=.ok (.value v) w) (hS:S w) (h:wpAnyH P md ops Q S fuel (listed.setIfInBounds i true) (a.put o.dst v) w)
  (hb:(Region.noSelect ops && (Region.free md ops listed i && (Region.ready md ops listed).contains i))=true:=by kernel_rfl) (hw:Region.wanted o (yielded ops a.tmps)=true:=by rfl) (hQ:∀ c a w,Q (.panic c) (a.put o.dst v) w→Q (.panic c) a w:=by exact fun _ _ _ h=>h):wpAnyH P md ops Q S (fuel+1) listed a w:=by
 rw[Bool.and_eq_true,Bool.and_eq_true] at hb
 exact wpAnyH_take hi hb.1 hb.2.1 hb.2.2 hQ (.inl ⟨hw,hy⟩) hS h
theorem zqu (i:Nat) (hi:ops[i]?=some o) (hS:S w) (h:wpAnyH P md ops Q S fuel (listed.setIfInBounds i true) (a.put o.dst undef) w)
  (hb:(Region.noSelect ops && (Region.free md ops listed i && (Region.ready md ops listed).contains i))=true:=by kernel_rfl) (hw:Region.wanted o (yielded ops a.tmps)=false:=by rfl) (hQ:∀ c a w,Q (.panic c) (a.put o.dst undef) w→Q (.panic c) a w:=by exact fun _ _ _ h=>h):wpAnyH P md ops Q S (fuel+1) listed a w:=by
 rw[Bool.and_eq_true,Bool.and_eq_true] at hb
 exact wpAnyH_take hi hb.1 hb.2.1 hb.2.2 hQ (.inr ⟨hw,rfl⟩) hS h
theorem zqr (i:Nat) (hi:ops[i]?=some o) (h:∀ K':Act→World→Prop,Shut (∀ a w,S w→(S w→wpAnyH P md ops Q S fuel (listed.setIfInBounds i true) a w)→K' a w)→if Region.wanted o (yielded ops a.tmps)=true then Oper.wp P o a w K' Q else K' (a.put o.dst undef) w)
  (hr:Region.ready md ops listed=[i]:=by kernel_rfl):wpAnyH P md ops Q S (fuel+1) listed a w:=wpAnyH_ready hr (by simp) (AllReadyH.cons hi h AllReadyH.nil)
end
end
section
open Go.RowKit Go.Joins
theorem of_laid:laidOutB Tryz.prog=true:=by kernel_rfl
theorem bnext {a b c:World} (h:Below a.heap.size a b) (k:Below b.heap.size b c):Below a.heap.size a c:=h.trans (k.mono h.size)
theorem bal {a b:World} (h:Below a.heap.size a b) (o:Obj):Below a.heap.size a (b.alloc o):=h.alloc h.size o
theorem bstart (a:World) (o:Obj):Below a.heap.size a (a.alloc o):=(Below.refl _ _).alloc (Nat.le_refl _) o
theorem bdraws {a b:World} (h:Below a.heap.size a b) (n:Nat):Below a.heap.size a (b.drewN n):=h.trans ⟨rfl,rfl,rfl,Nat.le_refl _,fun _ _=>rfl⟩
theorem hid_of {p:Prop} (h:p):Hid p:=h
theorem grow_cell {w:World} (o:Obj) {b:Nat} (h:b < w.heap.size) (i:Nat):(w.alloc o).cell? ⟨b,i,none⟩=w.cell? ⟨b,i,none⟩:=(bstart w o).cell (p:=⟨b,i,none⟩) h
theorem block_lt {w:World} {b:Nat} {o:Obj} (h:w.heap[b]?=some o):b < w.heap.size:=by
 rcases Nat.lt_or_ge b w.heap.size with k | k
 ·exact k
 ·rw[Array.getElem?_eq_none k] at h; cases h
end
section
open Go.RowKit Go.Joins
def Own (e:TypeId) (w:World) (base g:Nat) (v:Value) (xs:List Value):Prop:=
 ∃ cap cur fz,v=.slice (some ⟨g,0,none⟩) xs.length cap∧base≤g∧w.heap[g]?=some (.cells cur e fz)∧(fz.2=0∨cap≤fz.1)∧xs.length≤cap∧cap≤maxLen∧cur.size=cap∧cur.toList.take xs.length=xs
section
variable {e:TypeId} {w w':World} {base g:Nat} {v:Value} {xs:List Value}
theorem Own.form (h:Own e w base g v xs):∃ cap,v=.slice (some ⟨g,0,none⟩) xs.length cap:=by
 obtain⟨cap,cur,fz,hv,_⟩:=h
 exact⟨cap,hv⟩
theorem Own.base_le (h:Own e w base g v xs):base≤g:=by
 obtain⟨cap,cur,fz,_,hb,_⟩:=h
 exact hb
theorem Own.lt (h:Own e w base g v xs):g < w.heap.size:=by
 obtain⟨cap,cur,fz,_,_,hg,_⟩:=h
 rcases Nat.lt_or_ge g w.heap.size with k | k
 ·exact k
 ·rw[Array.getElem?_eq_none k] at hg; cases hg
theorem Own.keep (h:Own e w base g v xs) (hk:w'.heap[g]?=w.heap[g]?):Own e w' base g v xs:=by
 obtain⟨cap,cur,fz,h1,h2,h3,h4⟩:=h
 exact⟨cap,cur,fz,h1,h2,hk.trans h3,h4⟩
theorem Own.alloc (h:Own e w base g v xs) (o:Obj):Own e (w.alloc o) base g v xs:=h.keep (Below.heap_alloc w o g h.lt)
theorem Own.drewN (h:Own e w base g v xs) (n:Nat):Own e (w.drewN n) base g v xs:=h.keep rfl
theorem Own.below {B:Nat} (h:Own e w base g v xs) (hb:Below B w w') (hg:g < B):Own e w' base g v xs:=h.keep (hb.block g hg)
theorem Own.mono {b:Nat} (h:Own e w base g v xs) (hb:b≤base):Own e w b g v xs:=by
 obtain⟨cap,cur,fz,h1,h2,h3⟩:=h
 exact⟨cap,cur,fz,h1,Nat.le_trans hb h2,h3⟩
theorem Own.cell (h:Own e w base g v xs) (j:Nat) (hj:j < xs.length):w.cell? ⟨g,j,none⟩=some xs[j]:=by
 obtain⟨cap,cur,fz,_,_,hg,_,_,_,_,ht⟩:=h
 have e1:w.cell? ⟨g,j,none⟩=cur[j]?:=cell_of_block hg j
 rw[e1]
 have e2:(cur.toList.take xs.length)[j]?=cur[j]?:=by
  rw[List.getElem?_take,if_pos hj]
  simp
 rw[← e2,ht,List.getElem?_eq_getElem hj]
theorem Own.free (h:Own e w base g v xs) (j:Nat) (hj:j < xs.length):w.frozen? ⟨g,j,none⟩=false:=by
 obtain⟨cap,cur,fz,_,_,hg,hf,hn,_⟩:=h
 obtain⟨lo,hi⟩:=fz
 simp only [World.frozen?,hg]
 simp only at hf
 rw[Bool.and_eq_false_iff]
 rcases hf with hf | hf
 ·right; simp; omega
 ·left; simp; omega
theorem Own.set (h:Own e w base g v xs) (j:Nat) (_hj:j < xs.length) (u:Value):Own e (w.setCell ⟨g,j,none⟩ u) base g v (xs.set j u):=by
 obtain⟨cap,cur,fz,h1,h2,hg,h4,h5,h6,h7,ht⟩:=h
 refine⟨cap,cur.setIfInBounds j u,fz,?_,h2,block_setCell (i:=j) hg u,h4,?_,h6,?_,?_⟩
 ·rw[List.length_set]; exact h1
 ·rw[List.length_set]; exact h5
 ·simpa using h7
 ·rw[List.length_set,Array.toList_setIfInBounds,List.take_set,ht]
theorem own_of_ownsRow {n:Nat} {b:Nat} (h:w.ownsRow b e 1 v n xs) (hn:0 < n):∃ g,b≤g∧Own e w b g v xs:=by
 obtain⟨hl,hh⟩:=h
 have hl':xs.length=n:=by simpa using hl
 rcases hh with ⟨_,h0⟩ | ⟨g,cap,cur,hv,hb,hg,hnc,hcm,hcs,ht⟩
 ·omega
 ·refine⟨g,hb,cap,cur,(0,0),by rw [hl']; exact hv,hb,hg,.inl rfl,by omega,hcm,by simpa using hcs,?_⟩
  rw[hl']; simpa using ht
variable {P:Program}
theorem run_append1 (t ty:TypeId) (i:TypeInfo) (z:Value) (bytes:Nat) (ht:P.underlying t=some (.slice e)) (hi:P.info? e=some i) (hz:i.zero=some z) (hs1:i.size=1) (hby:i.bytes=bytes) (hzs:z.cells.size=1)
  (h:Own e w base g v xs) (ad:Addr) (c:Nat) (x:Value) (hx:w.cell? ad=some x) (hspot:ad.spot=none) (h1:x.oneCell'=true) (h63:xs.length+1≤maxLen) (hbytes:(xs.length+1) * bytes≤140737488355328):
  ∃ g' v' w',(Builtin.append_ #[t,t] ty #[v,.slice (some ad) 1 c]).run P w=.ok v' w'∧Own e w' base g' v' (xs ++ [x])∧(g'=g∨w.heap.size≤g')∧w.grownBy w' (some g):=by
 have hlt:=h.lt
 obtain⟨cap,cur,fz,hv,hb,hg,hf,hn,hcm,hcs,htk⟩:=id h
 have hnews:∀ (j:Nat) (u:Value),[x][j]?=some u→w.cell? (ad.add j)=some u:=by
  intro j u hj
  match j,hj with
  | 0,hj=>
   simp at hj
   subst hj
   obtain⟨ab,ao,asp⟩:=ad
   simp only at hspot
   subst hspot
   simpa [Addr.add] using hx
 subst hv
 by_cases hroom:xs.length+1≤cap
 ·have hc:∀ j,j < [x].length→(w.cell? ⟨g,0+xs.length * i.size+j,none⟩).isSome=true:=by
   intro j hj
   have:j=0:=by simpa using hj
   subst this
   rw[hs1,show 0+xs.length * 1+0=xs.length by omega,cell_of_block hg,Array.getElem?_eq_getElem (by omega)]
   rfl
  have hfz:∀ j,j < [x].length→w.frozen? ⟨g,0+xs.length * i.size+j,none⟩=false:=by
   intro j hj
   have:j=0:=by simpa using hj
   subst this
   rw[hs1,show 0+xs.length * 1+0=xs.length by omega]
   obtain⟨lo,hi'⟩:=fz
   simp only [World.frozen?,hg]
   simp only at hf
   rw[Bool.and_eq_false_iff]
   rcases hf with hf | hf
   ·right; simp; omega
   ·left; simp; omega
  have hr:=run_append_room_cells (P:=P) w t ty e i ht hi g 0 xs.length cap ad 1 c [x] (by simp [hs1]) hnews (by simpa using h1) hroom hc hfz
  rw[hs1,show 0+xs.length * 1=xs.length by omega] at hr
  refine⟨g,_,_,hr,?_,.inl rfl,?_⟩
  ·show Own e (w.setCell ⟨g,xs.length,none⟩ x) base g _ _
   refine⟨cap,cur.setIfInBounds xs.length x,fz,by simp,hb,block_setCell (i:=xs.length) hg x,hf,by simpa using hroom,hcm,by simpa using hcs,?_⟩
   rw[Array.toList_setIfInBounds]
   rw[List.length_append,List.length_singleton]
   have hlen:xs.length < cur.toList.length:=by simp; omega
   rw[List.take_succ_eq_append_getElem (by simpa using hlen)]
   rw[List.take_set,List.getElem_set_self]
   rw[htk,List.set_eq_of_length_le (by omega)]
  ·show w.grownBy (w.setCell ⟨g,xs.length,none⟩ x) (some g)
   refine⟨rfl,rfl,rfl,by simp,fun k hk hne=>?_⟩
   exact Below.heap_setCell w _ _ k (by simpa using hne)
 ·obtain⟨v',w',hrun,r1,r2⟩:=run_append_arg_grows (P:=P) w t ty e i z 1 bytes ht hi hz hs1 hby hzs (by decide) ⟨g,0,none⟩ xs.length cap xs (by simp) (fun j u hj=>by
   have hj':j < xs.length:=by
    rcases Nat.lt_or_ge j xs.length with k | k
    ·exact k
    ·rw[List.getElem?_eq_none k] at hj; cases hj
   rw[List.getElem?_eq_getElem hj'] at hj
   have:=h.cell j hj'
   rw[Addr.add_lit,Nat.zero_add,this,hj]) ad 1 c [x] (by simp) hnews (by omega) h63 hbytes
  obtain⟨g',hg',ho⟩:=own_of_ownsRow r1 (by omega)
  refine⟨g',v',w',hrun,ho.mono ?_,.inr hg',?_⟩
  ·omega
  ·obtain⟨a1,a2,a3,a4,a5⟩:=r2
   exact⟨a1,a2,a3,a4,fun k hk _=>a5 k hk (by simp)⟩
theorem wpList_append1 {ops:Array Oper} {rest:List Oper} {o:Oper} {a:Act} {Q:Exit→Act→World→Prop} (hgd:o.guard=none) (s y:Operand) (t:TypeId)
  (hop:o.op=.call { callee:=.builtin .append,args:=#[s,y],argTypes:=#[t,t] })
  (i:TypeInfo) (z:Value) (bytes:Nat) (ht:P.underlying t=some (.slice e)) (hi:P.info? e=some i) (hz:i.zero=some z) (hs1:i.size=1) (hby:i.bytes=bytes) (hzs:z.cells.size=1)
  (hs:a.eval s=v) (h:Own e w base g v xs) (ad:Addr) (c:Nat) (x:Value) (hy:a.eval y=.slice (some ad) 1 c) (hx:w.cell? ad=some x) (hspot:ad.spot=none) (h1:x.oneCell'=true) (h63:xs.length+1≤maxLen) (hbytes:(xs.length+1) * bytes≤140737488355328)
  (hK:∀ g' v' w',Own e w' base g' v' (xs ++ [x])→(g'=g∨w.heap.size≤g')→w.grownBy w' (some g)→wpList P ops Q rest (a.put o.dst v') w'):wpList P ops Q (o :: rest) a w:=by
 refine wpList_plain hgd fun K hK'=>?_
 obtain⟨g',v',w',hrun,r1,r2,r3⟩:=run_append1 (P:=P) t o.type i z bytes ht hi hz hs1 hby hzs h ad c x hx hspot h1 h63 hbytes
 unfold Oper.wp
 simp[execOp,hop,resolve,invoke,builtin,hs,hy,hrun,Result.andThen]
 exact hK' _ _ (hK g' v' w' r1 r2 r3)
end
end
section
open Go.RowKit Go.Joins
def IsRow (k:IntKind) (w:World) (a:Option Addr) (len cap:Nat) (zs:List Int):Prop:=
 (a=none∧len=0∧cap=0∧zs=[])∨
 ∃ x,a=some x∧len≤cap∧cap≤maxLen∧zs.length=cap∧(∀ i,i < zs.length→w.cell? (x.add i)=some (.int k (zs.getD i 0)))∧∀ n∈zs,(Lit.int k n).wf=true
end
section
open Go.RowKit Go.Joins
def fints (f:Nat→Int) (n:Nat):List Value:=(List.range n).map fun i=>.int .i64 (f i)
def upd (f:Nat→Int) (j:Nat) (x:Int):Nat→Int:=fun i=>if i=j then x else f i
theorem fints_length (f:Nat→Int) (n:Nat):(fints f n).length=n:=by simp [fints]
theorem fints_get (f:Nat→Int) (n j:Nat) (h:j < (fints f n).length):(fints f n)[j]=.int .i64 (f j):=by simp [fints]
theorem fints_congr {f g:Nat→Int} {n:Nat} (h:∀ i,i < n→f i=g i):fints f n=fints g n:=by
 unfold fints
 refine List.map_congr_left fun i hi=>?_
 rw[h i (List.mem_range.mp hi)]
theorem fints_set (f:Nat→Int) (n j:Nat) (x:Int):(fints f n).set j (.int .i64 x)=fints (upd f j x) n:=by
 refine List.ext_getElem (by simp [fints]) fun i h1 h2=>?_
 rw[List.getElem_set,fints_get (upd f j x)]
 by_cases hij:j=i
 ·subst hij
  rw[if_pos rfl]
  simp[upd]
 ·have hji:¬ i=j:=fun h=>hij h.symm
  rw[if_neg hij,fints_get]
  simp[upd,hji]
def IOwn (w:World) (base g n cap:Nat) (f:Nat→Int):Prop:=Own 3 w base g (.slice (some ⟨g,0,none⟩) n cap) (fints f n)
section
variable {w w':World} {base g n cap:Nat} {f:Nat→Int}
theorem IOwn.lt (h:IOwn w base g n cap f):g < w.heap.size:=Own.lt h
theorem IOwn.base_le (h:IOwn w base g n cap f):base≤g:=Own.base_le h
theorem IOwn.cell (h:IOwn w base g n cap f) (j:Nat) (hj:j < n):w.cell? ⟨g,j,none⟩=some (.int .i64 (f j)):=by
 have h':j < (fints f n).length:=by rw [fints_length]; exact hj
 rw[Own.cell h j h',fints_get]
theorem IOwn.free (h:IOwn w base g n cap f) (j:Nat) (hj:j < n):w.frozen? ⟨g,j,none⟩=false:=Own.free h j (by rw [fints_length]; exact hj)
theorem IOwn.set (h:IOwn w base g n cap f) (j:Nat) (hj:j < n) (x:Int):IOwn (w.setCell ⟨g,j,none⟩ (.int .i64 x)) base g n cap (upd f j x):=by
 have k:=Own.set h j (by rw [fints_length]; exact hj) (.int .i64 x)
 rw[fints_set] at k
 exact k
theorem IOwn.congr {f':Nat→Int} (h:IOwn w base g n cap f) (e:∀ i,i < n→f i=f' i):IOwn w base g n cap f':=by
 unfold IOwn at h ⊢
 rw[← fints_congr e]
 exact h
theorem IOwn.keep (h:IOwn w base g n cap f) (hk:w'.heap[g]?=w.heap[g]?):IOwn w' base g n cap f:=Own.keep h hk
theorem IOwn.alloc (h:IOwn w base g n cap f) (o:Obj):IOwn (w.alloc o) base g n cap f:=Own.alloc h o
theorem IOwn.drew (h:IOwn w base g n cap f):IOwn w.drew base g n cap f:=Own.drewN h 1
theorem IOwn.below {B:Nat} (h:IOwn w base g n cap f) (hb:Below B w w') (hg:g < B):IOwn w' base g n cap f:=Own.below h hb hg
theorem IOwn.called (h:IOwn w base g n cap f) (hb:Below w.heap.size w w'):IOwn w' base g n cap f:=Own.below h hb h.lt
theorem IOwn.mono {b:Nat} (h:IOwn w base g n cap f) (hb:b≤base):IOwn w b g n cap f:=Own.mono h hb
theorem IOwn.grown {row:Option Nat} (h:IOwn w base g n cap f) (hg:w.grownBy w' row) (hne:row≠some g):IOwn w' base g n cap f:=h.keep (hg.block g h.lt (Ne.symm hne))
theorem made_ints (n:Nat):(madeCells #[Value.int .i64 0] n).toList=fints (fun _=>0) n:=by
 unfold madeCells fints
 rw[Array.toList_map,Array.toList_range]
 refine List.map_congr_left fun i _=>?_
 simp[Nat.mod_one]
theorem IOwn.made (w:World) (n:Nat) (hn:n≤maxLen) (hb:base≤w.heap.size):IOwn (w.alloc (.cells (madeCells #[Value.int .i64 0] n) 3)) base w.heap.size n n (fun _=>0):=by
 refine⟨n,madeCells #[Value.int .i64 0] n,(0,0),by rw [fints_length],hb,heap_alloc_new w _,.inl rfl,by rw [fints_length]; exact Nat.le_refl _,hn,by simp [madeCells],?_⟩
 rw[made_ints,fints_length,List.take_of_length_le (by rw [fints_length]; exact Nat.le_refl _)]
end
def Came (w:World) (a:Option Addr) (n:Nat) (f:Nat→Int):Prop:=
 n=0∨∃ g off,a=some ⟨g,off,none⟩∧g < w.heap.size∧∀ j,j < n→w.cell? ⟨g,off+j,none⟩=some (.int .i64 (f j))
theorem Came.called {w w':World} {a:Option Addr} {n:Nat} {f:Nat→Int} (h:Came w a n f) (hb:Below w.heap.size w w'):Came w' a n f:=by
 rcases h with h | ⟨g,off,ha,hg,hc⟩
 ·exact .inl h
 ·exact .inr ⟨g,off,ha,Nat.lt_of_lt_of_le hg hb.size,fun j hj=>(hb.cell (p:=⟨g,off+j,none⟩) hg).trans (hc j hj)⟩
def SL (w:World) (base:Nat) (a:Option Addr) (n cap:Nat) (f:Nat→Int):Prop:=n=0∨∃ g,a=some ⟨g,0,none⟩∧IOwn w base g n cap f
theorem SL.came {w:World} {base:Nat} {a:Option Addr} {n cap:Nat} {f:Nat→Int} (h:SL w base a n cap f):Came w a n f:=by
 rcases h with h | ⟨g,rfl,h⟩
 ·exact .inl h
 ·exact .inr ⟨g,0,rfl,h.lt,fun j hj=>by rw [Nat.zero_add]; exact h.cell j hj⟩
theorem SL.called {w w':World} {base:Nat} {a:Option Addr} {n cap:Nat} {f:Nat→Int} (h:SL w base a n cap f) (hb:Below w.heap.size w w'):SL w' base a n cap f:=by
 rcases h with h | ⟨g,rfl,h⟩
 ·exact .inl h
 ·exact .inr ⟨g,rfl,h.called hb⟩
theorem IOwn.sl {w:World} {base g n cap:Nat} {f:Nat→Int} (h:IOwn w base g n cap f):SL w base (some ⟨g,0,none⟩) n cap f:=.inr ⟨g,rfl,h⟩
theorem Came.grown {w w':World} {a:Option Addr} {n B:Nat} {f:Nat→Int} {row:Option Nat} (h:Came w a n f) (hB:∀ g off,a=some ⟨g,off,none⟩→g < B) (hr:∀ k,row=some k→B≤k) (hg:w.grownBy w' row):Came w' a n f:=by
 rcases h with h | ⟨g,off,ha,hlt,hc⟩
 ·exact .inl h
 ·refine .inr ⟨g,off,ha,Nat.lt_of_lt_of_le hlt hg.size,fun j hj=>?_⟩
  have hne:some g≠row:=fun e=>by have h1:=hB g off ha; have h2:=hr g e.symm; omega
  have hb:=hg.block g hlt hne
  rw[← hc j hj]
  unfold World.cell?
  rw[hb]
theorem came_of_row {w:World} {a:Option Addr} {len cap:Nat} {zs:List Int} (h:IsRow .i64 w a len cap zs):Came w a len (fun j=>zs.getD j 0)∧len≤maxLen∧∀ i,i < len→(Lit.int .i64 (zs.getD i 0)).wf=true:=by
 rcases h with ⟨_,rfl,rfl,_⟩ | ⟨x,rfl,hl,hm,hz,hc,hw⟩
 ·exact⟨.inl rfl,Nat.zero_le _,fun i hi=>absurd hi (Nat.not_lt_zero i)⟩
 ·refine⟨?_,by omega,fun i hi=>hw _ ?_⟩
  ·rcases Nat.eq_zero_or_pos len with h0 | h0
   ·exact .inl h0
   ·obtain⟨b,off,spot⟩:=x
    have h1:=hc 0 (by omega)
    have hspot:spot=none:=by simpa [Addr.add] using World.cell?_spot h1
    subst hspot
    have hadd:∀ j,(⟨b,off,none⟩:Addr).add j=⟨b,off+j,none⟩:=fun j=>Addr.add_lit _ _ _
    refine .inr ⟨b,off,rfl,?_,fun j hj=>?_⟩
    ·rw[hadd] at h1
     exact World.block_lt_of_cell? w _ h1
    ·have h2:=hc j (by omega)
     rw[hadd] at h2
     exact h2
  ·rw[List.getD_eq_getElem?_getD,List.getElem?_eq_getElem (by omega)]
   exact List.getElem_mem _
end
section
namespace OutMath
def p2 (n:Nat):Int:=2 ^ n
theorem p2_zero:p2 0=1:=by simp [p2]
theorem p2_succ (n:Nat):p2 (n+1)=2 * p2 n:=by unfold p2; rw [Int.pow_succ]; omega
theorem p2_pos:∀ n,1≤p2 n
 | 0=>by simp [p2]
 | n+1=>by have:=p2_pos n; rw [p2_succ]; omega
theorem p2_mono (n:Nat):∀ m,p2 n≤p2 (n+m)
 | 0=>by simp
 | m+1=>by have:=p2_mono n m; have h:=p2_pos (n+m); rw [← Nat.add_assoc,p2_succ]; omega
theorem p2_le {n m:Nat} (h:n≤m):p2 n≤p2 m:=by
 obtain⟨k,rfl⟩:=Nat.exists_eq_add_of_le h
 exact p2_mono n k
theorem p2_61 {n:Nat} (h:n≤61):p2 n≤2305843009213693952:=by
 have h1:=p2_le h
 have h2:p2 61=2305843009213693952:=by decide +kernel
 omega
def last (s:ByteArray):Nat:=(s.data[s.size - 1]?.getD 0).toNat
end OutMath
end
section
namespace BigMath
def rb (s:ByteArray) (a:Nat):Nat→Int
 | 0=>0
 | k+1=>256 * rb s a k+((s.data[a+k]?.getD 0).toNat:Int)
end BigMath
end
section
namespace BigTextMath
def q256:Nat→Int
 | 0=>1
 | n+1=>q256 n * 256
def low (n:Int):Nat→List Int
 | 0=>[]
 | k+1=>(n / q256 k % 256) :: low n k
end BigTextMath
end
section
namespace TakeMath
open OutMath
def byteAt (s:ByteArray) (i:Nat):Nat:=(s.data[i]?.getD 0).toNat
theorem byteAt_get (s:ByteArray) (i:Nat) (h:i < s.size):(s[i]'h).toNat=byteAt s i:=by
 unfold byteAt
 have h':i < s.data.size:=h
 rw[Array.getElem?_eq_getElem h']
 rfl
end TakeMath
end
section
namespace RastMath
def chan (c:Int):Int:=if c=0∨c=3 then 1 else if c=2 then 3 else if c=4 then 2 else if c=6 then 4 else 0
abbrev Five (d:Int):Prop:=d=1∨d=2∨d=4∨d=8∨d=16
abbrev DepthR (c d:Int):Prop:=(c=0∧Five d)∨(c=3∧Five d∧d≠16)∨((c=2∨c=4∨c=6)∧(d=8∨d=16))
abbrev SideR (n:Int):Prop:=1≤n∧n≤24
theorem chan_range (c:Int):0≤chan c∧chan c≤4:=by
 unfold chan
 repeat' split
 all_goals omega
theorem chan_pos {c d:Int} (h:DepthR c d):1≤chan c:=by
 unfold chan
 rcases h with ⟨rfl,_⟩ | ⟨rfl,_⟩ | ⟨rfl | rfl | rfl,_⟩ <;> decide
theorem depth_five {c d:Int} (h:DepthR c d):Five d:=by
 rcases h with ⟨_,h⟩ | ⟨_,h,_⟩ | ⟨_,h⟩
 ·exact h
 ·exact h
 ·exact .inr (.inr (.inr h))
theorem five_range {d:Int} (h:Five d):1≤d∧d≤16:=by
 unfold Five at h
 omega
end RastMath
end
section
namespace CrcMath
def byteAt (s:ByteArray) (i:Nat):Nat:=(s.data[i]?.getD 0).toNat
theorem byteAt_get (s:ByteArray) (i:Nat) (h:i < s.size):(s[i]'h).toNat=byteAt s i:=by
 unfold byteAt
 have h':i < s.data.size:=h
 rw[Array.getElem?_eq_getElem h']
 rfl
end CrcMath
end
section
namespace ChunkMath
open Go.RowKit OutMath BigMath BigTextMath CrcMath
abbrev LetterR (b:Nat):Prop:=65≤b∧b≤90∨97≤b∧b≤122
abbrev NameR (n:ByteArray):Prop:=n.size=4∧LetterR (byteAt n 0)∧LetterR (byteAt n 1)∧LetterR (byteAt n 2)∧LetterR (byteAt n 3)∧byteAt n 2≤90
abbrev Chk:=ByteArray×ByteArray
theorem bx_ext {a b:ByteArray} (h:a.data.toList=b.data.toList):a=b:=by
 obtain⟨x⟩:=a
 obtain⟨y⟩:=b
 congr 1
 exact Array.ext' h
theorem bx_app (a b:ByteArray):(a ++ b).data.toList=a.data.toList ++ b.data.toList:=by
 obtain⟨x⟩:=a
 obtain⟨y⟩:=b
 show (ByteArray.mk x ++ ByteArray.mk y).data.toList=_
 simp
theorem bx_len (a:ByteArray):a.data.toList.length=a.size:=by simp
theorem bx_size (a b:ByteArray):(a ++ b).size=a.size+b.size:=by rw [← bx_len,bx_app,List.length_append,bx_len,bx_len]
end ChunkMath
end
section
namespace HeadMath
open Go.RowKit OutMath BigMath BigTextMath RastMath
abbrev Rgb3:=Int×Int×Int
abbrev HeadR (x y d c:Int):Prop:=SideR x∧SideR y∧DepthR c d
def tb (t:ByteArray) (i:Nat):Nat:=(t.data[i]?.getD 0).toNat
def hx (t:ByteArray):Int:=rb t 0 4
def hy (t:ByteArray):Int:=rb t 4 4
def hd (t:ByteArray):Int:=(tb t 8:Int)
def hc (t:ByteArray):Int:=(tb t 9:Int)
def hl (t:ByteArray):Bool:=(tb t 12:Int) == 1
abbrev RgbR (c:Rgb3):Prop:=(0≤c.1∧c.1≤255)∧(0≤c.2.1∧c.2.1≤255)∧(0≤c.2.2∧c.2.2≤255)
def colN (F:Nat→Rgb3):Nat→List Int
 | 0=>[]
 | n+1=>colN F n ++ [(F n).1,(F n).2.1,(F n).2.2]
theorem colN_next (F:Nat→Rgb3) (n:Nat):colN F (n+1)=colN F n ++ [(F n).1,(F n).2.1,(F n).2.2]:=rfl
theorem colN_length (F:Nat→Rgb3):∀ n,(colN F n).length=3 * n
 | 0=>rfl
 | n+1=>by rw [colN_next,List.length_append,colN_length F n]; rfl
def tableT (F:Nat→Rgb3) (n:Nat):ByteArray:=strOfNums (colN F n)
def TableR (F:Nat→Rgb3) (n:Nat):Prop:=(1≤n∧n≤256)∧∀ i,i < n→RgbR (F i)
end HeadMath
end
section
open Go.RowKit Go.Joins HeadMath
theorem info_rgb:(Tryz.prog.info? 74).map (fun i=>(i.zero,i.size,i.bytes))=some (some (.agg #[.int .i64 0,.int .i64 0,.int .i64 0]),3,24):=by kernel_rfl
def rgbTcells:List Rgb3→List Value
 | []=>[]
 | c :: l=>.int .i64 c.1 :: .int .i64 c.2.1 :: .int .i64 c.2.2 :: rgbTcells l
theorem rgbTcells_length:∀ l:List Rgb3,(rgbTcells l).length=l.length * 3
 | []=>rfl
 | c :: l=>by
  show (rgbTcells l).length+1+1+1=(l.length+1) * 3
  rw[rgbTcells_length l]
  omega
theorem rgbTcells_app:∀ xs ys:List Rgb3,rgbTcells (xs ++ ys)=rgbTcells xs ++ rgbTcells ys
 | [],ys=>rfl
 | c :: l,ys=>by
  show Value.int .i64 c.1 :: .int .i64 c.2.1 :: .int .i64 c.2.2 :: rgbTcells (l ++ ys)=Value.int .i64 c.1 :: .int .i64 c.2.1 :: .int .i64 c.2.2 :: (rgbTcells l ++ rgbTcells ys)
  rw[rgbTcells_app l ys]
theorem rgbTcells_get:∀ (l:List Rgb3) (i:Nat),i < l.length→(rgbTcells l)[i * 3]?=some (.int .i64 (l.getD i (0,0,0)).1)∧(rgbTcells l)[i * 3+1]?=some (.int .i64 (l.getD i (0,0,0)).2.1)∧(rgbTcells l)[i * 3+2]?=some (.int .i64 (l.getD i (0,0,0)).2.2)
 | [],i,h=>by simp at h
 | c :: l,0,_=>⟨rfl,rfl,rfl⟩
 | c :: l,i+1,h=>by
  have q:=rgbTcells_get l i (by simpa using h)
  rw[show (i+1) * 3=i * 3+1+1+1 by omega]
  exact q
theorem rgbTcells_one:∀ (l:List Rgb3),∀ u∈rgbTcells l,u.oneCell'=true
 | [],u,h=>by cases h
 | c :: l,u,h=>by
  rcases List.mem_cons.mp h with rfl | h
  ·rfl
  ·rcases List.mem_cons.mp h with rfl | h
   ·rfl
   ·rcases List.mem_cons.mp h with rfl | h
    ·rfl
    ·exact rgbTcells_one l u h
def RgbCame (w:World) (a:Option Addr) (n:Nat) (F:Nat→Rgb3):Prop:=
 n=0∨∃ g off,a=some ⟨g,off,none⟩∧g < w.heap.size∧∀ j,j < n→w.cell? ⟨g,off+j * 3,none⟩=some (.int .i64 (F j).1)∧w.cell? ⟨g,off+j * 3+1,none⟩=some (.int .i64 (F j).2.1)∧w.cell? ⟨g,off+j * 3+2,none⟩=some (.int .i64 (F j).2.2)
theorem RgbCame.called {w w':World} {a:Option Addr} {n:Nat} {F:Nat→Rgb3} (h:RgbCame w a n F) (hb:Below w.heap.size w w'):RgbCame w' a n F:=by
 rcases h with h | ⟨g,off,ha,hg,hc⟩
 ·exact .inl h
 ·exact .inr ⟨g,off,ha,Nat.lt_of_lt_of_le hg hb.size,fun j hj=>⟨(hb.cell (p:=⟨g,off+j * 3,none⟩) hg).trans (hc j hj).1,(hb.cell (p:=⟨g,off+j * 3+1,none⟩) hg).trans (hc j hj).2.1,(hb.cell (p:=⟨g,off+j * 3+2,none⟩) hg).trans (hc j hj).2.2⟩⟩
theorem RgbCame.congr {w:World} {a:Option Addr} {n:Nat} {F G:Nat→Rgb3} (h:RgbCame w a n F) (e:∀ j,j < n→F j=G j):RgbCame w a n G:=by
 rcases h with h | ⟨g,off,ha,hg,hc⟩
 ·exact .inl h
 ·exact .inr ⟨g,off,ha,hg,fun j hj=>by rw [← e j hj]; exact hc j hj⟩
def RgbOwn (w:World) (base g n:Nat) (F:Nat→Rgb3):Prop:=base≤g∧∃ cur,w.heap[g]?=some (.cells cur 74 (0,0))∧n * 3≤cur.size∧∀ j,j < n→cur[j * 3]?=some (.int .i64 (F j).1)∧cur[j * 3+1]?=some (.int .i64 (F j).2.1)∧cur[j * 3+2]?=some (.int .i64 (F j).2.2)
theorem RgbOwn.lt {w:World} {base g n:Nat} {F:Nat→Rgb3} (h:RgbOwn w base g n F):g < w.heap.size:=by
 obtain⟨_,cur,h2,_⟩:=h
 exact block_lt h2
theorem RgbOwn.keep {w w':World} {base g n:Nat} {F:Nat→Rgb3} (h:RgbOwn w base g n F) (hk:w'.heap[g]?=w.heap[g]?):RgbOwn w' base g n F:=by
 obtain⟨h1,cur,h2,h3⟩:=h
 exact⟨h1,cur,hk.trans h2,h3⟩
theorem RgbOwn.called {w w':World} {base g n:Nat} {F:Nat→Rgb3} (h:RgbOwn w base g n F) (hb:Below w.heap.size w w'):RgbOwn w' base g n F:=h.keep (hb.block g h.lt)
theorem RgbOwn.came {w:World} {base g n:Nat} {F:Nat→Rgb3} (h:RgbOwn w base g n F):RgbCame w (some ⟨g,0,none⟩) n F:=by
 refine .inr ⟨g,0,rfl,h.lt,fun j hj=>?_⟩
 obtain⟨_,cur,h2,h3,h4⟩:=h
 rw[Nat.zero_add,cell_of_block h2,cell_of_block h2,cell_of_block h2]
 exact h4 j hj
theorem rgbTcame_of_own {w:World} {S n:Nat} {v:Value} {L:List Rgb3} (h:w.ownsRow S 74 3 v n (rgbTcells L)) (hn:n=L.length):∃ a c,v=.slice a L.length c∧L.length≤c∧c≤maxLen∧(a=none→c=0)∧RgbCame w a L.length (fun j=>L.getD j (0,0,0))∧(∀ ad,a=some ad→∃ g,ad=⟨g,0,none⟩∧S≤g):=by
 subst hn
 rcases h.2 with ⟨rfl,h0⟩ | ⟨g,cap,cur,rfl,hb,hg,hc,hm,hs,ht⟩
 ·exact⟨none,0,by rw [h0],by omega,Nat.zero_le _,fun _=>rfl,.inl h0,fun ad e=>by cases e⟩
 ·refine⟨_,cap,rfl,hc,hm,(fun e=>by cases e),.inr ⟨g,0,rfl,block_lt hg,fun j hj=>?_⟩,fun ad e=>by cases e; exact⟨g,rfl,hb⟩⟩
  have q:=rgbTcells_get L j hj
  rw[Nat.zero_add,h.cellAt (j * 3) (by omega),h.cellAt (j * 3+1) (by omega),h.cellAt (j * 3+2) (by omega)]
  exact q
theorem rgb_called {w w':World} {S n:Nat} {v:Value} {L:List Rgb3} (h:w.ownsRow S 74 3 v n (rgbTcells L)) (hb:Below w.heap.size w w'):w'.ownsRow S 74 3 v n (rgbTcells L):=by
 refine⟨h.1,?_⟩
 rcases h.2 with h | ⟨g,cap,cur,rfl,h1,h2,h3⟩
 ·exact .inl h
 ·exact .inr ⟨g,cap,cur,rfl,h1,(hb.block g (block_lt h2)).trans h2,h3⟩
end
section
open Go.RowKit Go.Joins
theorem info_chk:(Tryz.prog.info? 93).map (fun i=>(i.zero,i.size,i.bytes))=some (some (.agg #[.string ByteArray.empty,.string ByteArray.empty]),2,32):=by kernel_rfl
def kcells:List (ByteArray×ByteArray)→List Value
 | []=>[]
 | c :: l=>.string c.1 :: .string c.2 :: kcells l
theorem dcells_length:∀ l:List (ByteArray×ByteArray),(kcells l).length=l.length * 2
 | []=>rfl
 | c :: l=>by
  show (kcells l).length+1+1=(l.length+1) * 2
  rw[dcells_length l]
  omega
theorem dcells_app:∀ xs ys:List (ByteArray×ByteArray),kcells (xs ++ ys)=kcells xs ++ kcells ys
 | [],ys=>rfl
 | c :: l,ys=>by
  show Value.string c.1 :: .string c.2 :: kcells (l ++ ys)=Value.string c.1 :: .string c.2 :: (kcells l ++ kcells ys)
  rw[dcells_app l ys]
theorem dcells_get0:∀ (l:List (ByteArray×ByteArray)) (i:Nat),i < l.length→(kcells l)[i * 2]?=some (.string (l.getD i (ByteArray.empty,ByteArray.empty)).1)
 | [],i,h=>by simp at h
 | c :: l,0,_=>rfl
 | c :: l,i+1,h=>by
  rw[show (i+1) * 2=i * 2+1+1 by omega]
  show (kcells l)[i * 2]?=some (.string (l.getD i (ByteArray.empty,ByteArray.empty)).1)
  exact dcells_get0 l i (by simpa using h)
theorem dcells_get1:∀ (l:List (ByteArray×ByteArray)) (i:Nat),i < l.length→(kcells l)[i * 2+1]?=some (.string ((l.getD i (ByteArray.empty,ByteArray.empty)).2))
 | [],i,h=>by simp at h
 | c :: l,0,_=>rfl
 | c :: l,i+1,h=>by
  rw[show (i+1) * 2+1=i * 2+1+1+1 by omega]
  show (kcells l)[i * 2+1]?=some (.string ((l.getD i (ByteArray.empty,ByteArray.empty)).2))
  exact dcells_get1 l i (by simpa using h)
theorem dcells_one:∀ (l:List (ByteArray×ByteArray)),∀ u∈kcells l,u.oneCell'=true
 | [],u,h=>by cases h
 | c :: l,u,h=>by
  rcases List.mem_cons.mp h with rfl | h
  ·rfl
  ·rcases List.mem_cons.mp h with rfl | h
   ·rfl
   ·exact dcells_one l u h
section
variable {w w':World} {B:Nat} {a:Option Addr} {c:Nat} {L:List (ByteArray×ByteArray)} {x:ByteArray×ByteArray}
end
theorem run_append_none_any {P:Program} {w:World} (base:Nat) (t ty e:TypeId) (i:TypeInfo) (size:Nat) (ht:P.underlying t=some (.slice e)) (hi:P.info? e=some i) (v:Value) (n c:Nat) (xs:List Value) (hown:w.ownsRow base e size v n xs):
  (Builtin.append_ #[t,t] ty #[v,.slice none 0 c]).run P w=.ok v w:=by
 rcases hown.2 with ⟨rfl,rfl⟩ | ⟨g,cap,cur,rfl,_,_,hnc,_⟩
 ·simp[Builtin.append_,run_underlying ht,sizeOf,typeInfo,hi,Builtin.lenOf,Builtin.firstCells]
 ·simp[Builtin.append_,run_underlying ht,sizeOf,typeInfo,hi,Builtin.lenOf,Builtin.firstCells,hnc,storeCells]
theorem append_none_any {P:Program} {w:World} {ops:Array Oper} {rest:List Oper} {o:Oper} {a:Act} {Q:Exit→Act→World→Prop} (hgd:o.guard=none) (s x:Operand) (t:TypeId)
  (ho:o.op=.call { callee:=.builtin .append,args:=#[s,x],argTypes:=#[t,t] })
  (base:Nat) (e:TypeId) (i:TypeInfo) (size:Nat) (ht:P.underlying t=some (.slice e)) (hi:P.info? e=some i)
  (v:Value) (n c:Nat) (xs:List Value) (hs:a.eval s=v) (hown:w.ownsRow base e size v n xs) (hx:a.eval x=.slice none 0 c)
  (h:wpList P ops Q rest (a.put o.dst v) w):wpList P ops Q (o :: rest) a w:=by
 refine wpList_plain hgd fun K hK=>?_
 have hrun:=run_append_none_any (P:=P) (w:=w) base t o.type e i size ht hi v n c xs hown
 unfold Oper.wp
 simp[execOp,ho,resolve,invoke,builtin,hs,hx,hrun,Result.andThen]
 exact hK _ _ h
theorem chks_append {w:World} {S:Nat} {v:Value} {xs ys:List (ByteArray×ByteArray)} {ops:Array Oper} {rest:List Oper} {o:Oper} {a:Act} {Q:Exit→Act→World→Prop} (hgd:o.guard=none) (s x:Operand)
  (ho:o.op=.call { callee:=.builtin .append,args:=#[s,x],argTypes:=#[35,35] }) (hs:a.eval s=v) (h:w.ownsRow S 93 2 v xs.length (kcells xs)) (ao:Option Addr) (m c:Nat) (hx:a.eval x=.slice ao m c) (hm:ys.length=m)
  (hc:∀ ad,ao=some ad→∀ j u,(kcells ys)[j]?=some u→w.cell? (ad.add j)=some u) (hn:ao=none→m=0)
  (h63:xs.length+ys.length≤16777216) (hS:S≤w.heap.size)
  (hK:∀ v' w',w'.ownsRow S 93 2 v' (xs ++ ys).length (kcells (xs ++ ys))→w.grownBy w' v.ownBlock→wpList Tryz.prog ops Q rest (a.put o.dst v') w'):wpList Tryz.prog ops Q (o :: rest) a w:=by
 obtain⟨i0,hi0,hz0,hz1,hz2⟩:=info_parts info_chk
 cases ao with
 | none=>
  obtain rfl:=hn rfl
  obtain rfl:ys=[]:=List.eq_nil_of_length_eq_zero hm
  refine append_none_any hgd s x _ ho S 93 i0 2 Tryz.underlying35 hi0 v _ c _ hs h hx (hK v w (by simpa using h) ⟨rfl,rfl,rfl,Nat.le_refl _,fun _ _ _=>rfl⟩)
 | some ad=>
  refine wpList_append_own_at w hgd s x _ ho S 93 i0 _ 2 32 Tryz.underlying35 hi0 hz0 hz1 hz2 rfl (by omega) v _ _ hs h ad m c (kcells ys) hx (by rw [dcells_length,hm]) (hc ad rfl) (dcells_one ys) (by unfold maxLen; omega) (by omega) hS ?_
  intro v' w' hown hg _ _
  refine hK v' w' ?_ hg
  rw[List.length_append,dcells_app,hm]
  exact hown
end
section
open Go.RowKit Go.Joins Go.Sort
def KCame (w:World) (a:Option Addr) (n:Nat) (F:Nat→ByteArray×ByteArray):Prop:=
 n=0∨∃ g off,a=some ⟨g,off,none⟩∧g < w.heap.size∧∀ j,j < n→w.cell? ⟨g,off+j * 2,none⟩=some (.string (F j).1)∧w.cell? ⟨g,off+j * 2+1,none⟩=some (.string (F j).2)
theorem KCame.called {w w':World} {a:Option Addr} {n:Nat} {F:Nat→ByteArray×ByteArray} (h:KCame w a n F) (hb:Below w.heap.size w w'):KCame w' a n F:=by
 rcases h with h | ⟨g,off,ha,hg,hc⟩
 ·exact .inl h
 ·exact .inr ⟨g,off,ha,Nat.lt_of_lt_of_le hg hb.size,fun j hj=>⟨(hb.cell (p:=⟨g,off+j * 2,none⟩) hg).trans (hc j hj).1,(hb.cell (p:=⟨g,off+j * 2+1,none⟩) hg).trans (hc j hj).2⟩⟩
theorem KCame.grown {w w':World} {a:Option Addr} {n B:Nat} {F:Nat→ByteArray×ByteArray} {row:Option Nat} (h:KCame w a n F) (hB:∀ g off,a=some ⟨g,off,none⟩→g < B) (hr:∀ k,row=some k→B≤k) (hg:w.grownBy w' row):KCame w' a n F:=by
 rcases h with h | ⟨g,off,ha,hlt,hc⟩
 ·exact .inl h
 ·have hne:some g≠row:=fun e=>by have h1:=hB g off ha; have h2:=hr g e.symm; omega
  have hb:=hg.block g hlt hne
  exact .inr ⟨g,off,ha,Nat.lt_of_lt_of_le hlt hg.size,fun j hj=>⟨(World.cell?_of_block (w:=w) hb).trans (hc j hj).1,(World.cell?_of_block (w:=w) hb).trans (hc j hj).2⟩⟩
def KOwn (w:World) (base g n:Nat) (F:Nat→ByteArray×ByteArray):Prop:=base≤g∧∃ cur,w.heap[g]?=some (.cells cur 93 (0,0))∧n * 2≤cur.size∧∀ j,j < n→cur[j * 2]?=some (.string (F j).1)∧cur[j * 2+1]?=some (.string (F j).2)
theorem KOwn.lt {w:World} {base g n:Nat} {F:Nat→ByteArray×ByteArray} (h:KOwn w base g n F):g < w.heap.size:=by
 obtain⟨_,cur,h2,_⟩:=h
 exact block_lt h2
theorem KOwn.keep {w w':World} {base g n:Nat} {F:Nat→ByteArray×ByteArray} (h:KOwn w base g n F) (hk:w'.heap[g]?=w.heap[g]?):KOwn w' base g n F:=by
 obtain⟨h1,cur,h2,h3⟩:=h
 exact⟨h1,cur,hk.trans h2,h3⟩
theorem KOwn.called {w w':World} {base g n:Nat} {F:Nat→ByteArray×ByteArray} (h:KOwn w base g n F) (hb:Below w.heap.size w w'):KOwn w' base g n F:=h.keep (hb.block g h.lt)
theorem KOwn.came {w:World} {base g n:Nat} {F:Nat→ByteArray×ByteArray} (h:KOwn w base g n F):KCame w (some ⟨g,0,none⟩) n F:=by
 refine .inr ⟨g,0,rfl,h.lt,fun j hj=>?_⟩
 obtain⟨_,cur,h2,h3,h4⟩:=h
 rw[Nat.zero_add,cell_of_block h2,cell_of_block h2]
 exact h4 j hj
theorem KOwn.free {w:World} {base g n:Nat} {F:Nat→ByteArray×ByteArray} (h:KOwn w base g n F) (k:Nat):w.frozen? ⟨g,k,none⟩=false:=by
 obtain⟨_,cur,h2,_⟩:=h
 simp[World.frozen?,h2]
def updK (F:Nat→ByteArray×ByteArray) (j:Nat) (x:ByteArray×ByteArray):Nat→ByteArray×ByteArray:=fun i=>if i=j then x else F i
theorem KOwn.set {w:World} {base g n:Nat} {F:Nat→ByteArray×ByteArray} (h:KOwn w base g n F) (j:Nat) (hj:j < n) (x y:ByteArray):KOwn ((w.setCell ⟨g,j * 2,none⟩ (.string x)).setCell ⟨g,j * 2+1,none⟩ (.string y)) base g n (updK F j (x,y)):=by
 obtain⟨h1,cur,h2,h3,h4⟩:=h
 refine⟨h1,(cur.setIfInBounds (j * 2) (.string x)).setIfInBounds (j * 2+1) (.string y),?_,by simpa using h3,fun i hi=>?_⟩
 ·simp[World.setCell,Array.getElem?_modify,h2]
 ·obtain⟨k1,k2⟩:=h4 i hi
  unfold updK
  by_cases e:i=j
  ·subst e
   rw[if_pos rfl]
   refine⟨?_,?_⟩
   ·rw[Array.getElem?_setIfInBounds_ne (by omega),Array.getElem?_setIfInBounds_self_of_lt (by omega)]
   ·rw[Array.getElem?_setIfInBounds_self_of_lt (by simp; omega)]
  ·rw[if_neg e]
   refine⟨?_,?_⟩
   ·rw[Array.getElem?_setIfInBounds_ne (by omega),Array.getElem?_setIfInBounds_ne (by omega)]; exact k1
   ·rw[Array.getElem?_setIfInBounds_ne (by omega),Array.getElem?_setIfInBounds_ne (by omega)]; exact k2
theorem KOwn.congr {w:World} {base g n:Nat} {F G:Nat→ByteArray×ByteArray} (h:KOwn w base g n F) (e:∀ j,j < n→F j=G j):KOwn w base g n G:=by
 obtain⟨h1,cur,h2,h3,h4⟩:=h
 exact⟨h1,cur,h2,h3,fun j hj=>by rw [← e j hj]; exact h4 j hj⟩
def KSL (w:World) (base:Nat) (a:Option Addr) (n:Nat) (F:Nat→ByteArray×ByteArray):Prop:=n=0∨∃ g,a=some ⟨g,0,none⟩∧KOwn w base g n F
theorem KSL.came {w:World} {base:Nat} {a:Option Addr} {n:Nat} {F:Nat→ByteArray×ByteArray} (h:KSL w base a n F):KCame w a n F:=by
 rcases h with h | ⟨g,rfl,h⟩
 ·exact .inl h
 ·exact h.came
theorem KSL.called {w w':World} {base:Nat} {a:Option Addr} {n:Nat} {F:Nat→ByteArray×ByteArray} (h:KSL w base a n F) (hb:Below w.heap.size w w'):KSL w' base a n F:=by
 rcases h with h | ⟨g,rfl,h⟩
 ·exact .inl h
 ·exact .inr ⟨g,rfl,h.called hb⟩
theorem ksl_of_own {w:World} {S n:Nat} {v:Value} {L:List (ByteArray×ByteArray)} (h:w.ownsRow S 93 2 v n (kcells L)) (hn:n=L.length):∃ a c,v=.slice a L.length c∧KSL w S a L.length (fun j=>L.getD j (ByteArray.empty,ByteArray.empty)):=by
 subst hn
 rcases h.2 with ⟨rfl,h0⟩ | ⟨g,cap,cur,rfl,hb,hg,hc,hm,hs,ht⟩
 ·exact⟨none,0,by rw [h0],.inl h0⟩
 ·refine⟨_,cap,rfl,.inr ⟨g,rfl,hb,cur,hg,by omega,fun j hj=>?_⟩⟩
  have k1:=h.cellAt (j * 2) (by omega)
  have k2:=h.cellAt (j * 2+1) (by omega)
  rw[cell_of_block hg] at k1 k2
  rw[k1,k2]
  exact⟨dcells_get0 L j hj,dcells_get1 L j hj⟩
theorem eqChunk_same (x y:ByteArray) (W:World):Calls Tryz.prog 80 #[.agg #[.string x,.string y],.agg #[.string x,.string y]] W fun e w'=>e=.returned (.bool true)∧∃ k os',w'=grow (W.drewN k) os':=by
 go_enter Tryz.func80,Tryz.ntmps80
 go_wp2_with fail
 go_ret
 exact⟨rfl,0,_,by rw [alloc_eq_grow,alloc_eq_grow,grow_grow]; rfl⟩
set_option maxHeartbeats 800000 in
theorem eqChunkS_same (a b:Option Addr) (n c1 c2:Nat) (F:Nat→ByteArray×ByteArray) (w:World) (ha:KCame w a n F) (hb:KCame w b n F) (hn:n≤1048576):
  Calls Tryz.prog 45 #[.slice a n c1,.slice b n c2] w fun e w'=>e=.returned (.bool true)∧Below w.heap.size w w':=by
 have mixed:Tryz.prog.follows .mixedOrders=true:=by kernel_rfl
 have HA:=hid_of ha
 have HB:=hid_of hb
 clear ha hb
 go_enter Tryz.func45,Tryz.ntmps45
 go_wp2_with fail
 go_loopw [5] (fun i w'=>∃ (j:Nat),j≤n∧i=.int .i64 j∧Hid (Below w.heap.size w w')) (fun i _=>n - (intOf i).toNat)
 case atStart=>exact⟨0,Nat.zero_le _,rfl,Below.refl _ _⟩
 case round=>
  obtain⟨j,hj,rfl,hBj⟩:=hrel
  by_cases hlt:j < n
  ·rcases HA.out with h0 | ⟨g,off,rfl,hg,hc⟩
   ·omega
   ·rcases HB.out with h0 | ⟨g',off',rfl,hg',hc'⟩
    ·omega
    ·have hbg:∀ n' os,Below w.heap.size w (grow (wr.drewN n') os):=fun n' os=>by
      refine hBj.out.trans ⟨rfl,rfl,rfl,?_,fun k hk=>heap_grow_old (wr.drewN n') os (by show k < wr.heap.size; have:=hBj.out.size; omega)⟩
      rw[size_grow]
      show wr.heap.size≤wr.heap.size+os.size
      omega
     have k0:=fun n' os=>((hbg n' os).cell (p:=⟨g,off+j * 2,none⟩) hg).trans (hc j hlt).1
     have k1:=fun n' os=>((hbg n' os).cell (p:=⟨g,off+j * 2+1,none⟩) hg).trans (hc j hlt).2
     have k2:=fun n' os=>((hbg n' os).cell (p:=⟨g',off'+j * 2,none⟩) hg').trans (hc' j hlt).1
     have k3:=fun n' os=>((hbg n' os).cell (p:=⟨g',off'+j * 2+1,none⟩) hg').trans (hc' j hlt).2
     have HBG:=hid_of hbg
     have hcb:=fun (n':Nat) (os:Array Obj)=>eqChunk_same (F j).1 (F j).2 (grow (wr.drewN n') os)
     generalize (F j).1=x at k0 k2 hcb
     generalize (F j).2=y at k1 k3 hcb
     clear hc hc' hbg
     go_wp2_with fail
     go_quiet_grown (refine Calls.grown_of (hcb _ _))
     have HN:=hid_of (HBG.out nq osq)
     clear k0 k1 k2 k3 hcb HBG
     generalize grow (wr.drewN nq) osq=w2 at HN
     go_wp2_with fail
     go_roundw
     case rel=>exact⟨j+1,by omega,by go_num,HN⟩
     case measure=>simp [intOf]; omega
  ·go_wp2_with fail
   go_ret
   exact⟨rfl,hBj.out⟩
theorem KOwn.grown {w w':World} {base g n:Nat} {F:Nat→ByteArray×ByteArray} {row:Option Nat} (h:KOwn w base g n F) (hg:w.grownBy w' row) (hne:row≠some g):KOwn w' base g n F:=h.keep (hg.block g h.lt (Ne.symm hne))
end
section
open Go.RowKit Go.Joins HeadMath
theorem RgbCame.grown {w w':World} {a:Option Addr} {n B:Nat} {F:Nat→Rgb3} {row:Option Nat} (h:RgbCame w a n F) (hB:∀ g off,a=some ⟨g,off,none⟩→g < B) (hr:∀ k,row=some k→B≤k) (hg:w.grownBy w' row):RgbCame w' a n F:=by
 rcases h with h | ⟨g,off,ha,hlt,hc⟩
 ·exact .inl h
 ·have hne:some g≠row:=fun e=>by have h1:=hB g off ha; have h2:=hr g e.symm; omega
  have hb:=hg.block g hlt hne
  exact .inr ⟨g,off,ha,Nat.lt_of_lt_of_le hlt hg.size,fun j hj=>⟨(World.cell?_of_block (w:=w) hb).trans (hc j hj).1,(World.cell?_of_block (w:=w) hb).trans (hc j hj).2.1,(World.cell?_of_block (w:=w) hb).trans (hc j hj).2.2⟩⟩
theorem RgbOwn.free {w:World} {base g n:Nat} {F:Nat→Rgb3} (h:RgbOwn w base g n F) (k:Nat):w.frozen? ⟨g,k,none⟩=false:=by
 obtain⟨_,cur,h2,_⟩:=h
 simp[World.frozen?,h2]
def rgbUpdT (F:Nat→Rgb3) (j:Nat) (t:Rgb3):Nat→Rgb3:=fun i=>if i=j then t else F i
theorem RgbOwn.set {w:World} {base g n:Nat} {F:Nat→Rgb3} (h:RgbOwn w base g n F) (j:Nat) (hj:j < n) (x y z:Int):RgbOwn (((w.setCell ⟨g,j * 3,none⟩ (.int .i64 x)).setCell ⟨g,j * 3+1,none⟩ (.int .i64 y)).setCell ⟨g,j * 3+2,none⟩ (.int .i64 z)) base g n (rgbUpdT F j (x,y,z)):=by
 obtain⟨h1,cur,h2,h3,h4⟩:=h
 refine⟨h1,((cur.setIfInBounds (j * 3) (.int .i64 x)).setIfInBounds (j * 3+1) (.int .i64 y)).setIfInBounds (j * 3+2) (.int .i64 z),?_,by simpa using h3,fun i hi=>?_⟩
 ·simp[World.setCell,Array.getElem?_modify,h2]
 ·obtain⟨k1,k2,k3⟩:=h4 i hi
  unfold rgbUpdT
  by_cases e:i=j
  ·subst e
   rw[if_pos rfl]
   refine⟨?_,?_,?_⟩
   ·rw[Array.getElem?_setIfInBounds_ne (by omega),Array.getElem?_setIfInBounds_ne (by omega),Array.getElem?_setIfInBounds_self_of_lt (by omega)]
   ·rw[Array.getElem?_setIfInBounds_ne (by omega),Array.getElem?_setIfInBounds_self_of_lt (by simp; omega)]
   ·rw[Array.getElem?_setIfInBounds_self_of_lt (by simp; omega)]
  ·rw[if_neg e]
   refine⟨?_,?_,?_⟩
   ·rw[Array.getElem?_setIfInBounds_ne (by omega),Array.getElem?_setIfInBounds_ne (by omega),Array.getElem?_setIfInBounds_ne (by omega)]; exact k1
   ·rw[Array.getElem?_setIfInBounds_ne (by omega),Array.getElem?_setIfInBounds_ne (by omega),Array.getElem?_setIfInBounds_ne (by omega)]; exact k2
   ·rw[Array.getElem?_setIfInBounds_ne (by omega),Array.getElem?_setIfInBounds_ne (by omega),Array.getElem?_setIfInBounds_ne (by omega)]; exact k3
theorem RgbOwn.congr {w:World} {base g n:Nat} {F G:Nat→Rgb3} (h:RgbOwn w base g n F) (e:∀ j,j < n→F j=G j):RgbOwn w base g n G:=by
 obtain⟨h1,cur,h2,h3,h4⟩:=h
 exact⟨h1,cur,h2,h3,fun j hj=>by rw [← e j hj]; exact h4 j hj⟩
theorem RgbOwn.grown {w w':World} {base g n:Nat} {F:Nat→Rgb3} {row:Option Nat} (h:RgbOwn w base g n F) (hg:w.grownBy w' row) (hne:row≠some g):RgbOwn w' base g n F:=h.keep (hg.block g h.lt (Ne.symm hne))
def RgbSL (w:World) (base:Nat) (a:Option Addr) (n:Nat) (F:Nat→Rgb3):Prop:=n=0∨∃ g,a=some ⟨g,0,none⟩∧RgbOwn w base g n F
theorem RgbSL.came {w:World} {base:Nat} {a:Option Addr} {n:Nat} {F:Nat→Rgb3} (h:RgbSL w base a n F):RgbCame w a n F:=by
 rcases h with h | ⟨g,rfl,h⟩
 ·exact .inl h
 ·exact h.came
theorem RgbSL.called {w w':World} {base:Nat} {a:Option Addr} {n:Nat} {F:Nat→Rgb3} (h:RgbSL w base a n F) (hb:Below w.heap.size w w'):RgbSL w' base a n F:=by
 rcases h with h | ⟨g,rfl,h⟩
 ·exact .inl h
 ·exact .inr ⟨g,rfl,h.called hb⟩
theorem rgbTsl_of_own {w:World} {S n:Nat} {v:Value} {L:List Rgb3} (h:w.ownsRow S 74 3 v n (rgbTcells L)) (hn:n=L.length):∃ a c,v=.slice a L.length c∧L.length≤c∧RgbSL w S a L.length (fun j=>L.getD j (0,0,0)):=by
 subst hn
 rcases h.2 with ⟨rfl,h0⟩ | ⟨g,cap,cur,rfl,hb,hg,hc,hm,hs,ht⟩
 ·exact⟨none,0,by rw [h0],by omega,.inl h0⟩
 ·refine⟨_,cap,rfl,hc,.inr ⟨g,rfl,hb,cur,hg,by omega,fun j hj=>?_⟩⟩
  have q:=rgbTcells_get L j hj
  have k1:=h.cellAt (j * 3) (by omega)
  have k2:=h.cellAt (j * 3+1) (by omega)
  have k3:=h.cellAt (j * 3+2) (by omega)
  rw[cell_of_block hg] at k1 k2 k3
  rw[k1,k2,k3]
  exact q
def rgbMarkedT (k:Int) (j:Nat):Rgb3:=(k+3 * j,k+3 * j+1,k+3 * j+2)
set_option maxHeartbeats 800000 in
theorem heldRgbS_same (a:Option Addr) (n c:Nat) (k:Int) (w:World) (ha:RgbCame w a n (rgbMarkedT k)) (hn:n≤1048576) (h0:0≤k) (h1:k≤10000000):
  Calls Tryz.prog 50 #[.slice a n c,.int .i64 k] w fun e w'=>e=.returned (.int .i64 (k+3 * n))∧w'=w:=by
 have HA:=hid_of ha
 clear ha
 go_enter Tryz.func50,Tryz.ntmps50
 go_wp2_with fail
 go_loop [1,5] (fun z i=>∃ (j:Nat),j≤n∧i=.int .i64 j∧z=.int .i64 (k+3 * j)) (fun _ i=>n - (intOf i).toNat)
 case atStart=>exact⟨0,Nat.zero_le _,rfl,by simp⟩
 case round=>
  obtain⟨j,hj,rfl,rfl⟩:=hrel
  by_cases hlt:j < n
  ·rcases HA.out with q | ⟨g,off,rfl,hg,hc⟩
   ·omega
   ·obtain⟨c0,c1,c2⟩:=hc j hlt
    have e0:(rgbMarkedT k j).1=k+3 * j:=rfl
    have e1:(rgbMarkedT k j).2.1=k+3 * j+1:=rfl
    have e2:(rgbMarkedT k j).2.2=k+3 * j+1+1:=by
     show k+3 * (j:Int)+2=_
     omega
    rw[e0] at c0
    rw[e1] at c1
    rw[e2] at c2
    clear hc e0 e1 e2
    go_wp2_with fail
    go_round
    case rel=>exact⟨j+1,by omega,by go_num,by first | go_num | (congr 1; omega)⟩
    case measure=>simp [intOf]; omega
  ·obtain rfl:j=n:=by omega
   go_wp2_with fail
   go_ret
   exact⟨rfl,rfl⟩
def RgbMarkSt (w w':World) (base g n:Nat) (F:Nat→Rgb3) (k:Int) (j:Nat):Prop:=RgbOwn w' base g n (fun i=>if i < j then rgbMarkedT k i else F i)∧w.grownBy w' (some g)
theorem rgbTmark_next {w w':World} {base g n:Nat} {F:Nat→Rgb3} {k:Int} {j:Nat} (h:RgbMarkSt w w' base g n F k j) (hj:j < n):RgbMarkSt w (((w'.setCell ⟨g,j * 3,none⟩ (.int .i64 (k+3 * j))).setCell ⟨g,j * 3+1,none⟩ (.int .i64 (k+3 * j+1))).setCell ⟨g,j * 3+2,none⟩ (.int .i64 (k+3 * j+1+1))) base g n F k (j+1):=by
 obtain⟨h1,h2⟩:=h
 refine⟨(h1.set j hj _ _ _).congr (fun i _=>?_),⟨h2.os,h2.tape,h2.output,by simpa using h2.size,fun b hb hne=>?_⟩⟩
 ·unfold rgbUpdT
  by_cases e:i=j
  ·rw[if_pos e,if_pos (by omega),e]
   show (k+3 * (j:Int),k+3 * (j:Int)+1,k+3 * (j:Int)+1+1)=(k+3 * (j:Int),k+3 * (j:Int)+1,k+3 * (j:Int)+2)
   rw[show k+3 * (j:Int)+1+1=k+3 * (j:Int)+2 by omega]
  ·rw[if_neg e]
   show (if i < j then rgbMarkedT k i else F i)=_
   by_cases q:i < j
   ·rw[if_pos q,if_pos (by omega)]
   ·rw[if_neg q,if_neg (by omega)]
 ·have hbg:b≠g:=fun e=>hne (by rw [e])
  rw[Below.heap_setCell _ _ _ _ hbg,Below.heap_setCell _ _ _ _ hbg,Below.heap_setCell _ _ _ _ hbg]
  exact h2.block b hb hne
set_option maxHeartbeats 800000 in
theorem markRgbS_own (base g n c:Nat) (F:Nat→Rgb3) (k:Int) (w:World) (ha:RgbOwn w base g n F) (hn:n≤1048576) (h0:0≤k) (h1:k≤10000000):
  Calls Tryz.prog 46 #[.slice (some ⟨g,0,none⟩) n c,.int .i64 k] w fun e w'=>e=.returned (.int .i64 (k+3 * n))∧RgbOwn w' base g n (rgbMarkedT k)∧w.grownBy w' (some g):=by
 have H0:Hid (RgbMarkSt w w base g n F k 0):=⟨ha.congr (fun i _=>by rw [if_neg (Nat.not_lt_zero i)]),⟨rfl,rfl,rfl,Nat.le_refl _,fun _ _ _=>rfl⟩⟩
 clear ha
 go_enter Tryz.func46,Tryz.ntmps46
 go_wp2_with fail
 go_loopw [1,5] (fun z i w'=>∃ (j:Nat),j≤n∧i=.int .i64 j∧z=.int .i64 (k+3 * j)∧Hid (RgbMarkSt w w' base g n F k j)) (fun _ i _=>n - (intOf i).toNat)
 case atStart=>exact⟨0,Nat.zero_le _,rfl,by simp,H0⟩
 case round=>
  clear H0
  obtain⟨j,hj,rfl,rfl,hS⟩:=hrel
  by_cases hlt:j < n
  ·rcases hS.out.1.came with q | ⟨g',off,e,hg,hc⟩
   ·omega
   ·cases e
    obtain⟨c0,c1,c2⟩:=hc j hlt
    rw[Nat.zero_add] at c0 c1 c2
    have fz:=hS.out.1.free
    have HS1:=hid_of (rgbTmark_next hS.out hlt)
    generalize (if j < j then rgbMarkedT k j else F j)=x at c0 c1 c2
    clear hc
    go_wp2_with fail
    go_roundw
    case rel=>exact⟨j+1,by omega,by go_num,by first | go_num | (congr 1; omega),HS1⟩
    case measure=>simp [intOf]; omega
  ·obtain rfl:j=n:=by omega
   have HZ:Hid (RgbOwn wr base g j (rgbMarkedT k)∧w.grownBy wr (some g)):=⟨hS.out.1.congr (fun i hi=>by rw [if_pos hi]),hS.out.2⟩
   go_wp2_with fail
   go_ret
   exact⟨rfl,HZ.out⟩
theorem markRgbS_none (a:Option Addr) (c:Nat) (k:Int) (w:World):Calls Tryz.prog 46 #[.slice a 0 c,.int .i64 k] w fun e w'=>e=.returned (.int .i64 k)∧w'=w:=by
 go_enter Tryz.func46,Tryz.ntmps46
 go_wp2_with fail
 go_loop [1,5] (fun z i=>i=.int .i64 0∧z=.int .i64 k) (fun _ _=>0)
 case atStart=>exact⟨rfl,rfl⟩
 case round=>
  obtain⟨rfl,rfl⟩:=hrel
  go_wp2_with fail
  go_ret
  exact⟨rfl,rfl⟩
end
section
namespace PutMath
open OutMath
theorem p2_8 {r:Nat} (h:r < 8):p2 r≤128:=by
 have h1:=p2_le (show r≤7 by omega)
 have h2:p2 7=128:=by decide +kernel
 omega
end PutMath
end
section
namespace RastMath
open OutMath PutMath
def hb (g:Nat→Int):Nat→Int
 | 0=>0
 | k+1=>2 * hb g k+g k
end RastMath
end
section
open Go.RowKit OutMath PutMath RastMath
def Fit12 (f:Nat→Int) (n d:Nat):Prop:=∀ i,i < n→0≤f i∧f i < p2 d
theorem Fit12.next {f:Nat→Int} {n d:Nat} (h:Fit12 f n d) (h0:0≤f n) (h1:f n < p2 d):Fit12 f (n+1) d:=fun i hi=>by
 by_cases e:i=n
 ·rw[e]; exact⟨h0,h1⟩
 ·exact h i (by omega)
end
section
open Go.RowKit RastMath
def RasR (x0 x1 x2 x3:Int) (n:Nat) (f:Nat→Int):Prop:=SideR x0∧SideR x1∧DepthR x2 x3∧(n:Int)=x0 * x1 * chan x2∧Fit12 f n x3.toNat
def RasPost (x0 x1 x2 x3:Int) (n:Nat) (f:Nat→Int) (w:World) (e:Ending) (w':World):Prop:=∃ b,e=.returned (.bool b)∧(b=true↔RasR x0 x1 x2 x3 n f)∧Below w.heap.size w w'
theorem ras_no {x0 x1 x2 x3:Int} {n:Nat} {f:Nat→Int} {w w':World} (h:¬ RasR x0 x1 x2 x3 n f) (hb:Below w.heap.size w w'):RasPost x0 x1 x2 x3 n f w (.returned (.bool false)) w':=⟨false,rfl,⟨(fun e=>by cases e),fun k=>absurd k h⟩,hb⟩
theorem ras_yes {x0 x1 x2 x3:Int} {n:Nat} {f:Nat→Int} {w w':World} (h:RasR x0 x1 x2 x3 n f) (hb:Below w.heap.size w w'):RasPost x0 x1 x2 x3 n f w (.returned (.bool true)) w':=⟨true,rfl,⟨fun _=>h,fun _=>rfl⟩,hb⟩
end
section
open Go.RowKit OutMath PutMath BigTextMath RastMath HeadMath
def ClearR (d c table:Int) (n:Nat) (f:Nat→Int):Prop:=1≤n∧((c=0∧n=1∧Fit12 f n d.toNat)∨(c=2∧n=3∧Fit12 f n d.toNat)∨(c=3∧(n:Int)≤table∧Fit12 f n 8))
theorem p2_8:p2 8=256:=by decide +kernel
end
section
open Go.RowKit OutMath PutMath BigTextMath RastMath HeadMath ChunkMath CrcMath
open scoped Classical
structure Pic where
 hw:Int
 hh:Int
 hd:Int
 hc:Int
 lace:Bool
 tn:Nat
 T:Nat→Rgb3
 cn:Nat
 C:Nat→Int
 rw:Int
 rh:Int
 rc:Int
 rd:Int
 sn:Nat
 S:Nat→Int
 kn:Nat
 K:Nat→Chk
def clearN:ByteArray:=⟨#[116,82,78,83]⟩
def KeepR (c:Chk):Prop:=(NameR c.1∧97≤byteAt c.1 0)∧¬ c.1=clearN∧c.2.size≤2600
def KeptR (n:Nat) (K:Nat→Chk):Prop:=n≤32∧∀ i,i < n→KeepR (K i)
def FitsR (c d:Int) (n:Nat) (T:Nat→Rgb3):Prop:=if c=3 then TableR T n∧(n:Int)≤p2 d.toNat else n=0
def ClrR (d c:Int) (tn cn:Nat) (C:Nat→Int):Prop:=cn=0∨ClearR d c (tn:Int) cn C
def InR (c:Int) (tn sn:Nat) (S:Nat→Int):Prop:=c=3→∀ i,i < sn→S i < (tn:Int)
def PngR (p:Pic):Prop:=(HeadR p.hw p.hh p.hd p.hc∧RasR p.rw p.rh p.rc p.rd p.sn p.S∧p.rw=p.hw∧p.rh=p.hh∧p.rc=p.hc∧p.rd=p.hd)∧FitsR p.hc p.hd p.tn p.T∧ClrR p.hd p.hc p.tn p.cn p.C∧InR p.hc p.tn p.sn p.S∧KeptR p.kn p.K
end
section
open Go.RowKit Go.Joins HeadMath
structure PicA where
 ta:Option Addr
 tc:Nat
 ca:Option Addr
 cc:Nat
 sa:Option Addr
 sc:Nat
 ka:Option Addr
 kc:Nat
def pngV (p:Pic) (q:PicA):Value:=.agg #[.int .i64 p.hw,.int .i64 p.hh,.int .i64 p.hd,.int .i64 p.hc,.bool p.lace,.slice q.ta p.tn q.tc,.slice q.ca p.cn q.cc,.int .i64 p.rw,.int .i64 p.rh,.int .i64 p.rc,.int .i64 p.rd,.slice q.sa p.sn q.sc,.slice q.ka p.kn q.kc]
structure PngIn (w:World) (p:Pic) (q:PicA):Prop where
 t:RgbCame w q.ta p.tn p.T
 c:Came w q.ca p.cn p.C
 s:Came w q.sa p.sn p.S
 k:KCame w q.ka p.kn p.K
 capped:p.sn≤q.sc∧q.sc≤maxLen
theorem PngIn.called {w w':World} {p:Pic} {q:PicA} (h:PngIn w p q) (hb:Below w.heap.size w w'):PngIn w' p q:=⟨h.t.called hb,h.c.called hb,h.s.called hb,h.k.called hb,h.capped⟩
structure PngSz (p:Pic):Prop where
 t:p.tn≤1048576
 c:p.cn≤1048576
 s:p.sn≤1048576
 k:p.kn≤1048576
 m:∀ i,i < p.kn→(p.K i).1.size≤1048576∧(p.K i).2.size≤1048576
structure PngOwn (w:World) (base:Nat) (p:Pic) (gt gc gs gk:Nat):Prop where
 t:RgbOwn w base gt p.tn p.T
 c:IOwn w base gc p.cn p.cn p.C
 s:IOwn w base gs p.sn p.sn p.S
 k:KOwn w base gk p.kn p.K
 ne:gt < gc∧gc < gs∧gs < gk
def picA (p:Pic) (gt gc gs gk:Nat):PicA:=⟨some ⟨gt,0,none⟩,p.tn,some ⟨gc,0,none⟩,p.cn,some ⟨gs,0,none⟩,p.sn,some ⟨gk,0,none⟩,p.kn⟩
theorem PngOwn.called {w w':World} {base:Nat} {p:Pic} {gt gc gs gk:Nat} (h:PngOwn w base p gt gc gs gk) (hb:Below w.heap.size w w'):PngOwn w' base p gt gc gs gk:=⟨h.t.called hb,h.c.called hb,h.s.called hb,h.k.called hb,h.ne⟩
theorem PngOwn.lie {w:World} {base:Nat} {p:Pic} {gt gc gs gk:Nat} (h:PngOwn w base p gt gc gs gk) (hz:PngSz p):PngIn w p (picA p gt gc gs gk):=⟨h.t.came,h.c.sl.came,h.s.sl.came,h.k.came,Nat.le_refl _,by have:=hz.s; show p.sn≤maxLen; unfold maxLen; omega⟩
end
section
open Go.RowKit Go.Joins
theorem info_i64:(Tryz.prog.info? 3).map (fun i=>(i.zero,i.size,i.bytes))=some (some (.int .i64 0),1,8):=by kernel_rfl
theorem make_ints (w:World) (n:Nat) (hn:n≤1048576):(Instr.makeSlice 25 (.int .i64 n) (.int .i64 n)).run Tryz.prog w=.ok (.slice (some ⟨w.heap.size,0,none⟩) n n) (w.alloc (.cells (madeCells #[Value.int .i64 0] n) 3)):=by
 obtain⟨i0,hi0,hz0,hz1,hz2⟩:=info_parts info_i64
 have h:=run_make (P:=Tryz.prog) w 25 3 i0 (.int .i64 0) Tryz.underlying25 hi0 hz0 .i64 .i64 n n (by omega) (by omega) (by rw [hz2]; omega) (by omega)
 rw[hz1,Int.toNat_natCast,Nat.mul_one] at h
 exact h
set_option maxHeartbeats 800000 in
theorem toIntS_any (a:Option Addr) (n cap:Nat) (f:Nat→Int) (w:World) (hr:Came w a n f) (hn:n≤1048576):
  Calls Tryz.prog 33 #[.slice a n cap] w fun e w'=>e=.returned (.slice (some ⟨w.heap.size,0,none⟩) n n)∧IOwn w' w.heap.size w.heap.size n n f∧Below w.heap.size w w':=by
 have hm:=make_ints w n hn
 have hO:=IOwn.made (base:=w.heap.size) w n (by unfold maxLen; omega) (Nat.le_refl _)
 have hB:Below w.heap.size w (w.alloc (.cells (madeCells #[Value.int .i64 0] n) 3)):=bstart _ _
 generalize w.alloc (.cells (madeCells #[Value.int .i64 0] n) 3)=w1 at hm hO hB
 have HO:Hid (IOwn w1 w.heap.size w.heap.size n n (fun _=>0)):=hO
 have HB:Hid (Below w.heap.size w w1):=hB
 have HR:Hid (Came w a n f):=hr
 clear hO hr hB
 go_enter Tryz.func33,Tryz.ntmps33
 go_wp2_with fail
 go_loopw [4] (fun i w'=>∃ (j:Nat) (h:Nat→Int),j≤n∧i=.int .i64 j∧Hid (∀ i,i < j→h i=f i)∧Hid (IOwn w' w.heap.size w.heap.size n n h)∧Hid (Below w.heap.size w w')) (fun i _=>n - (intOf i).toNat)
 case atStart=>exact⟨0,_,Nat.zero_le _,rfl,fun i hi=>absurd hi (Nat.not_lt_zero i),HO,HB⟩
 case round=>
  obtain⟨j,h,hj,rfl,hh,hOj,hBj⟩:=hrel
  by_cases hlt:j < n
  ·rcases HR.out with h0 | ⟨g,off,rfl,hg,hc⟩
   ·omega
   ·have c0:wr.cell? ⟨g,off+j,none⟩=some (.int .i64 (f j)):=(hBj.out.cell (p:=⟨g,off+j,none⟩) hg).trans (hc j hlt)
    have c1:=hOj.out.cell j hlt
    have f1:=hOj.out.free j hlt
    have hl:=hOj.out.lt
    have hl2:g < wr.heap.size:=Nat.lt_of_lt_of_le hg hBj.out.size
    have HO1:Hid (IOwn (wr.setCell ⟨w.heap.size,j,none⟩ (.int .i64 (f j))) w.heap.size w.heap.size n n (upd h j (f j))):=hOj.out.set j hlt _
    have HB1:Hid (Below w.heap.size w (wr.setCell ⟨w.heap.size,j,none⟩ (.int .i64 (f j)))):=Below.setCell (p:=⟨w.heap.size,j,none⟩) hBj.out (Nat.le_refl _) _
    have HH:Hid (∀ i,i < j+1→upd h j (f j) i=f i):=by
     intro i hi
     unfold upd
     by_cases e:i=j
     ·rw[if_pos e,e]
     ·rw[if_neg e]; exact hh.out i (by omega)
    clear hc
    go_wp2_with fail
    go_roundw
    case rel=>exact⟨j+1,_,by omega,by go_num,HH,HO1,HB1⟩
    case measure=>simp [intOf]; omega
  ·obtain rfl:j=n:=by omega
   go_wp2_with fail
   go_ret
   exact⟨rfl,hOj.out.congr hh.out,hBj.out⟩
set_option maxHeartbeats 800000 in
theorem eqIntS_same (a b:Option Addr) (n c1 c2:Nat) (f:Nat→Int) (w:World) (ha:Came w a n f) (hb:Came w b n f) (hn:n≤1048576):
  Calls Tryz.prog 43 #[.slice a n c1,.slice b n c2] w fun e w'=>e=.returned (.bool true)∧Below w.heap.size w w':=by
 have HA:Hid (Came w a n f):=ha
 have HB:Hid (Came w b n f):=hb
 clear ha hb
 go_enter Tryz.func43,Tryz.ntmps43
 go_wp2_with fail
 go_loopw [5] (fun i w'=>∃ (j:Nat),j≤n∧i=.int .i64 j∧Hid (Below w.heap.size w w')) (fun i _=>n - (intOf i).toNat)
 case atStart=>exact⟨0,Nat.zero_le _,rfl,Below.refl _ _⟩
 case round=>
  obtain⟨j,hj,rfl,hBj⟩:=hrel
  by_cases hlt:j < n
  ·rcases HA.out with h0 | ⟨g,off,rfl,hg,hc⟩
   ·omega
   ·rcases HB.out with h0 | ⟨g',off',rfl,hg',hc'⟩
    ·omega
    ·have k0:wr.cell? ⟨g,off+j,none⟩=some (.int .i64 (f j)):=(hBj.out.cell (p:=⟨g,off+j,none⟩) hg).trans (hc j hlt)
     have k1:wr.cell? ⟨g',off'+j,none⟩=some (.int .i64 (f j)):=(hBj.out.cell (p:=⟨g',off'+j,none⟩) hg').trans (hc' j hlt)
     have l0:g < wr.heap.size:=Nat.lt_of_lt_of_le hg hBj.out.size
     have l1:g' < wr.heap.size:=Nat.lt_of_lt_of_le hg' hBj.out.size
     clear hc hc'
     go_wp2_with fail
     go_region
     all_goals
      go_wp2_with fail
      go_roundw
      case rel=>exact⟨j+1,by omega,by go_num,hBj.out.drew⟩
      case measure=>simp [intOf]; omega
  ·go_wp2_with fail
   go_ret
   exact⟨rfl,hBj.out⟩
theorem IOwn.came {w:World} {base g n cap:Nat} {f:Nat→Int} (h:IOwn w base g n cap f):Came w (some ⟨g,0,none⟩) n f:=
 .inr ⟨g,0,rfl,h.lt,fun j hj=>by rw [Nat.zero_add]; exact h.cell j hj⟩
end
section
open Go.RowKit Go.Joins
theorem szIntS_any (a:Option Addr) (n cap:Nat) (l:Int) (w:World) (h0:0≤l) (h1:l≤1048576) (hn:n≤maxLen):
  Calls Tryz.prog 24 #[.slice a n cap,.int .i64 l] w fun e w'=>e=.returned (.int .i64 (if (n:Int)≤l then l - n else -1))∧w'=w:=by
 unfold maxLen at hn
 by_cases h:(n:Int)≤l
 ·rw[if_pos h]
  have d:decide (l - (n:Int) < 0)=false:=decide_eq_false (by omega)
  go_enter Tryz.func24,Tryz.ntmps24
  go_wp2_with fail
  go_ret
  exact⟨rfl,rfl⟩
 ·rw[if_neg h]
  have d:decide (l - (n:Int) < 0)=true:=decide_eq_true (by omega)
  go_enter Tryz.func24,Tryz.ntmps24
  go_wp2_with fail
  go_ret
  exact⟨rfl,rfl⟩
theorem szRaster_any (x0 x1 x2 x3:Int) (a:Option Addr) (n cap:Nat) (l:Int) (w:World) (h0:0≤l) (h1:l≤1048576) (hn:n≤maxLen):
  Calls Tryz.prog 25 #[.agg #[.int .i64 x0,.int .i64 x1,.int .i64 x2,.int .i64 x3,.slice a n cap],.int .i64 l] w fun e w'=>e=.returned (.int .i64 (if (n:Int)≤l then l - n else -1))∧Below w.heap.size w w':=by
 have hs:=fun W=>szIntS_any a n cap l W h0 h1 hn
 have hB:=hid_of (bstart w (.cells #[.int .i64 x0,.int .i64 x1,.int .i64 x2,.int .i64 x3,.slice a n cap] 27))
 unfold maxLen at hn
 by_cases h:(n:Int)≤l
 ·rw[if_pos h] at hs ⊢
  have d:decide (l - (n:Int) < 0)=false:=decide_eq_false (by omega)
  go_enter Tryz.func25,Tryz.ntmps25
  go_wp2_with fail
  refine (hs _).mono ?_
  rintro e w1 ⟨rfl,rfl⟩
  go_wp2_with fail
  go_ret
  exact⟨rfl,hB.out⟩
 ·rw[if_neg h] at hs ⊢
  go_enter Tryz.func25,Tryz.ntmps25
  go_wp2_with fail
  refine (hs _).mono ?_
  rintro e w1 ⟨rfl,rfl⟩
  go_wp2_with fail
  go_ret
  exact⟨rfl,hB.out⟩
def RasCopy (x0 x1 x2 x3:Int) (n:Nat) (f:Nat→Int) (w:World) (e:Ending) (w':World):Prop:=∃ g,e=.returned (.agg #[.int .i64 x0,.int .i64 x1,.int .i64 x2,.int .i64 x3,.slice (some ⟨g,0,none⟩) n n])∧IOwn w' w.heap.size g n n f∧Below w.heap.size w w'
set_option maxHeartbeats 1600000 in
theorem toRaster_any (x0 x1 x2 x3:Int) (a:Option Addr) (n cap:Nat) (f:Nat→Int) (w:World) (hC:Came w a n f) (hn:n≤1048576):
  Calls Tryz.prog 34 #[.agg #[.int .i64 x0,.int .i64 x1,.int .i64 x2,.int .i64 x3,.slice a n cap]] w (RasCopy x0 x1 x2 x3 n f w):=by
 have HC:=hid_of hC
 clear hC
 go_enter Tryz.func34,Tryz.ntmps34
 go_wp2_with fail
 have HB0:Hid (Below w.heap.size w (((w.alloc (.cells #[.int .i64 x0,.int .i64 x1,.int .i64 x2,.int .i64 x3,.slice a n cap] 27)).alloc (.cells #[.int .i64 0,.int .i64 0,.int .i64 0,.int .i64 0,.slice none 0 0] 34)).alloc (.cells #[.int .i64 x0,.int .i64 x1,.int .i64 x2,.int .i64 x3,.slice none 0 0] 34))):=bal (bal (bstart _ _) _) _
 have HS0:Hid ((((w.alloc (.cells #[.int .i64 x0,.int .i64 x1,.int .i64 x2,.int .i64 x3,.slice a n cap] 27)).alloc (.cells #[.int .i64 0,.int .i64 0,.int .i64 0,.int .i64 0,.slice none 0 0] 34)).alloc (.cells #[.int .i64 x0,.int .i64 x1,.int .i64 x2,.int .i64 x3,.slice none 0 0] 34)).heap.size=w.heap.size+3):=by
  show _=_
  simp
 have HR1:Hid ((((w.alloc (.cells #[.int .i64 x0,.int .i64 x1,.int .i64 x2,.int .i64 x3,.slice a n cap] 27)).alloc (.cells #[.int .i64 0,.int .i64 0,.int .i64 0,.int .i64 0,.slice none 0 0] 34)).alloc (.cells #[.int .i64 x0,.int .i64 x1,.int .i64 x2,.int .i64 x3,.slice none 0 0] 34)).heap[w.heap.size+1]?=some (.cells #[.int .i64 0,.int .i64 0,.int .i64 0,.int .i64 0,.slice none 0 0] 34 (0,0))):=by
  show (((w.heap.push _).push _).push _)[w.heap.size+1]?=_
  rw[Array.getElem?_push,if_neg (by simp),Array.getElem?_push,if_pos (by simp)]
 have HR2:Hid ((((w.alloc (.cells #[.int .i64 x0,.int .i64 x1,.int .i64 x2,.int .i64 x3,.slice a n cap] 27)).alloc (.cells #[.int .i64 0,.int .i64 0,.int .i64 0,.int .i64 0,.slice none 0 0] 34)).alloc (.cells #[.int .i64 x0,.int .i64 x1,.int .i64 x2,.int .i64 x3,.slice none 0 0] 34)).heap[w.heap.size+1+1]?=some (.cells #[.int .i64 x0,.int .i64 x1,.int .i64 x2,.int .i64 x3,.slice none 0 0] 34 (0,0))):=by
  show (((w.heap.push _).push _).push _)[w.heap.size+1+1]?=_
  rw[Array.getElem?_push,if_pos (by simp)]
 generalize ((w.alloc (.cells #[.int .i64 x0,.int .i64 x1,.int .i64 x2,.int .i64 x3,.slice a n cap] 27)).alloc (.cells #[.int .i64 0,.int .i64 0,.int .i64 0,.int .i64 0,.slice none 0 0] 34)).alloc (.cells #[.int .i64 x0,.int .i64 x1,.int .i64 x2,.int .i64 x3,.slice none 0 0] 34)=W3 at HB0 HS0 HR1 HR2 ⊢
 refine (toIntS_any a n cap f W3 (HC.out.called HB0.out) hn).mono ?_
 rintro e w4 ⟨rfl,hO4,hB4⟩
 have q1:w4.heap[w.heap.size+1]?=some (.cells #[.int .i64 0,.int .i64 0,.int .i64 0,.int .i64 0,.slice none 0 0] 34 (0,0)):=(hB4.block _ (by rw [HS0.out]; omega)).trans HR1.out
 have q2:w4.heap[w.heap.size+1+1]?=some (.cells #[.int .i64 x0,.int .i64 x1,.int .i64 x2,.int .i64 x3,.slice none 0 0] 34 (0,0)):=(hB4.block _ (by rw [HS0.out]; omega)).trans HR2.out
 rw[HS0.out] at hO4 ⊢
 have HO4:=hid_of hO4
 have HB4:=hid_of (bnext HB0.out hB4)
 have c0:w4.cell? ⟨w.heap.size+1+1,0,none⟩=some (.int .i64 x0):=(cell_of_block q2 0).trans rfl
 have c1:w4.cell? ⟨w.heap.size+1+1,1,none⟩=some (.int .i64 x1):=(cell_of_block q2 1).trans rfl
 have c2:w4.cell? ⟨w.heap.size+1+1,2,none⟩=some (.int .i64 x2):=(cell_of_block q2 2).trans rfl
 have c3:w4.cell? ⟨w.heap.size+1+1,3,none⟩=some (.int .i64 x3):=(cell_of_block q2 3).trans rfl
 have c4:w4.cell? ⟨w.heap.size+1+1,4,none⟩=some (.slice none 0 0):=(cell_of_block q2 4).trans rfl
 have b0:w4.cell? ⟨w.heap.size+1,0,none⟩=some (.int .i64 0):=(cell_of_block q1 0).trans rfl
 have b1:w4.cell? ⟨w.heap.size+1,1,none⟩=some (.int .i64 0):=(cell_of_block q1 1).trans rfl
 have b2:w4.cell? ⟨w.heap.size+1,2,none⟩=some (.int .i64 0):=(cell_of_block q1 2).trans rfl
 have b3:w4.cell? ⟨w.heap.size+1,3,none⟩=some (.int .i64 0):=(cell_of_block q1 3).trans rfl
 have b4:w4.cell? ⟨w.heap.size+1,4,none⟩=some (.slice none 0 0):=(cell_of_block q1 4).trans rfl
 have cf:∀ q,w4.frozen? ⟨w.heap.size+1+1,q,none⟩=false:=fun q=>by simp [World.frozen?,q2]
 have bf:∀ q,w4.frozen? ⟨w.heap.size+1,q,none⟩=false:=fun q=>by simp [World.frozen?,q1]
 have l1:=block_lt q1
 have l2:=block_lt q2
 clear q1 q2 hO4 hB4
 go_wp2_with fail
 refine bodyPost_ret (v:=.agg #[.int .i64 x0,.int .i64 x1,.int .i64 x2,.int .i64 x3,.slice (some ⟨w.heap.size+3,0,none⟩) n n]) ?_ rfl ⟨_,rfl,?_,?_⟩
 ·simp[results,Tryz.results34,go_sem, *]
 ·refine (HO4.out.mono (by omega)).keep ?_
  repeat' rw [Below.heap_setCell _ _ _ _ (by first | (simp; done) | (simp; omega))]
 ·repeat' refine Below.setCell ?_ (by first | (simp; done) | (simp; omega)) _
  exact HB4.out
set_option maxHeartbeats 1600000 in
theorem eqRaster_same (x0 x1 x2 x3:Int) (a b:Option Addr) (n c1 c2:Nat) (f:Nat→Int) (w:World) (ha:Came w a n f) (hb:Came w b n f) (hn:n≤1048576):
  Calls Tryz.prog 44 #[.agg #[.int .i64 x0,.int .i64 x1,.int .i64 x2,.int .i64 x3,.slice a n c1],.agg #[.int .i64 x0,.int .i64 x1,.int .i64 x2,.int .i64 x3,.slice b n c2]] w fun e w'=>e=.returned (.bool true)∧Below w.heap.size w w':=by
 have HA:=hid_of ha
 have HB:=hid_of hb
 clear ha hb
 have n0:(x0 != x0)=false:=by simp
 have n1:(x1 != x1)=false:=by simp
 have n2:(x2 != x2)=false:=by simp
 have n3:(x3 != x3)=false:=by simp
 go_enter Tryz.func44,Tryz.ntmps44
 go_wp2_with fail
 have HB0:Hid (Below w.heap.size w ((w.alloc (.cells #[.int .i64 x0,.int .i64 x1,.int .i64 x2,.int .i64 x3,.slice a n c1] 34)).alloc (.cells #[.int .i64 x0,.int .i64 x1,.int .i64 x2,.int .i64 x3,.slice b n c2] 34))):=bal (bstart _ _) _
 refine (eqIntS_same a b n c1 c2 f _ (HA.out.called HB0.out) (HB.out.called HB0.out) hn).mono ?_
 rintro e w1 ⟨rfl,hB1⟩
 have HB1:=hid_of (bnext HB0.out hB1)
 clear hB1
 go_wp2_with fail
 go_ret
 exact⟨rfl,HB1.out⟩
end
section
open Go.RowKit Go.Joins Go.Sort HeadMath
theorem eqRgb_same (x y z:Int) (W:World):Calls Tryz.prog 79 #[.agg #[.int .i64 x,.int .i64 y,.int .i64 z],.agg #[.int .i64 x,.int .i64 y,.int .i64 z]] W fun e w'=>e=.returned (.bool true)∧∃ k os',w'=grow (W.drewN k) os':=by
 go_enter Tryz.func79,Tryz.ntmps79
 go_wp2_with fail
 go_ret
 exact⟨rfl,0,_,by rw [alloc_eq_grow,alloc_eq_grow,grow_grow]; rfl⟩
set_option maxHeartbeats 1600000 in
theorem eqRgbS_same (a b:Option Addr) (n c1 c2:Nat) (F:Nat→Rgb3) (w:World) (ha:RgbCame w a n F) (hb:RgbCame w b n F) (hn:n≤1048576):
  Calls Tryz.prog 42 #[.slice a n c1,.slice b n c2] w fun e w'=>e=.returned (.bool true)∧Below w.heap.size w w':=by
 have mixed:Tryz.prog.follows .mixedOrders=true:=by kernel_rfl
 have HA:=hid_of ha
 have HB:=hid_of hb
 clear ha hb
 go_enter Tryz.func42,Tryz.ntmps42
 go_wp2_with fail
 go_loopw [5] (fun i w'=>∃ (j:Nat),j≤n∧i=.int .i64 j∧Hid (Below w.heap.size w w')) (fun i _=>n - (intOf i).toNat)
 case atStart=>exact⟨0,Nat.zero_le _,rfl,Below.refl _ _⟩
 case round=>
  obtain⟨j,hj,rfl,hBj⟩:=hrel
  by_cases hlt:j < n
  ·rcases HA.out with h0 | ⟨g,off,rfl,hg,hc⟩
   ·omega
   ·rcases HB.out with h0 | ⟨g',off',rfl,hg',hc'⟩
    ·omega
    ·have hbg:∀ n' os,Below w.heap.size w (grow (wr.drewN n') os):=fun n' os=>by
      refine hBj.out.trans ⟨rfl,rfl,rfl,?_,fun k hk=>heap_grow_old (wr.drewN n') os (by show k < wr.heap.size; have:=hBj.out.size; omega)⟩
      rw[size_grow]
      show wr.heap.size≤wr.heap.size+os.size
      omega
     have k0:=fun n' os=>((hbg n' os).cell (p:=⟨g,off+j * 3,none⟩) hg).trans (hc j hlt).1
     have k1:=fun n' os=>((hbg n' os).cell (p:=⟨g,off+j * 3+1,none⟩) hg).trans (hc j hlt).2.1
     have k2:=fun n' os=>((hbg n' os).cell (p:=⟨g,off+j * 3+2,none⟩) hg).trans (hc j hlt).2.2
     have l0:=fun n' os=>((hbg n' os).cell (p:=⟨g',off'+j * 3,none⟩) hg').trans (hc' j hlt).1
     have l1:=fun n' os=>((hbg n' os).cell (p:=⟨g',off'+j * 3+1,none⟩) hg').trans (hc' j hlt).2.1
     have l2:=fun n' os=>((hbg n' os).cell (p:=⟨g',off'+j * 3+2,none⟩) hg').trans (hc' j hlt).2.2
     have HBG:=hid_of hbg
     have hcb:=fun (n':Nat) (os:Array Obj)=>eqRgb_same (F j).1 (F j).2.1 (F j).2.2 (grow (wr.drewN n') os)
     generalize (F j).1=x at k0 l0 hcb
     generalize (F j).2.1=y at k1 l1 hcb
     generalize (F j).2.2=z at k2 l2 hcb
     clear hc hc' hbg
     go_wp2_with fail
     go_quiet_grown (refine Calls.grown_of (hcb _ _))
     have HN:=hid_of (HBG.out nq osq)
     clear k0 k1 k2 l0 l1 l2 hcb HBG
     generalize grow (wr.drewN nq) osq=w2 at HN
     go_wp2_with fail
     go_roundw
     case rel=>exact⟨j+1,by omega,by go_num,HN⟩
     case measure=>simp [intOf]; omega
  ·go_wp2_with fail
   go_ret
   exact⟨rfl,hBj.out⟩
end
section
open Go.RowKit Go.Joins HeadMath
theorem make_rgbs (w:World) (n:Nat) (hn:n≤1048576):(Instr.makeSlice 33 (.int .i64 n) (.int .i64 n)).run Tryz.prog w=.ok (.slice (some ⟨w.heap.size,0,none⟩) n n) (w.alloc (.cells (madeCells #[.int .i64 0,.int .i64 0,.int .i64 0] (n * 3)) 74)):=by
 obtain⟨i0,hi0,hz0,hz1,hz2⟩:=info_parts info_rgb
 have h:=run_make (P:=Tryz.prog) w 33 74 i0 (.agg #[.int .i64 0,.int .i64 0,.int .i64 0]) Tryz.underlying33 hi0 hz0 .i64 .i64 n n (by omega) (by omega) (by rw [hz2]; omega) (by omega)
 rw[hz1,Int.toNat_natCast] at h
 exact h
theorem made_rgb (n j:Nat) (hj:j < n * 3):(madeCells #[Value.int .i64 0,.int .i64 0,.int .i64 0] (n * 3))[j]?=some (.int .i64 0):=by
 unfold madeCells
 rw[Array.getElem?_map,Array.getElem?_range,if_pos hj]
 show some ((#[Value.int .i64 0,.int .i64 0,.int .i64 0])[j % 3]!)=_
 have h:j % 3 < 3:=Nat.mod_lt _ (by omega)
 generalize j % 3=q at h
 match q,h with
 | 0,_=>rfl
 | 1,_=>rfl
 | 2,_=>rfl
theorem RgbOwn.made (w:World) (base n:Nat) (hb:base≤w.heap.size):RgbOwn (w.alloc (.cells (madeCells #[.int .i64 0,.int .i64 0,.int .i64 0] (n * 3)) 74)) base w.heap.size n (fun _=>(0,0,0)):=
 ⟨hb,_,heap_alloc_new w _,by rw [size_madeCells]; exact Nat.le_refl _,fun j hj=>⟨made_rgb n _ (by omega),made_rgb n _ (by omega),made_rgb n _ (by omega)⟩⟩
end
end Go.Proofs.YtkpbfmdnjnohlaaGreat
