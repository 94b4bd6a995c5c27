/-
  Texts of the proof, put together.
-/
import Derived.Test.YtcbbcadfolgioaaDoorPe05
import Derived.Laws.AppendOwnNone
import Derived.Deep.LoopGhost
namespace Go.Proofs.YtcbbcadfolgioaaDoor
open Go.RowKit Go.Joins
theorem info_b8:(Tryd.prog.info? 5).map (fun i=>(i.zero,i.size,i.bytes))=some (some (.int .u8 0),1,1):=by kernel_rfl
def b8 (xs:List Int):List Value:=xs.map (Value.int .u8)
theorem b8_length (xs:List Int):(b8 xs).length=xs.length:=by simp [b8]
theorem b8_app (xs:List Int) (y:Int):b8 (xs ++ [y])=b8 xs ++ [.int .u8 y]:=by simp [b8]
def BR (w:World) (S g n cap:Nat) (xs:List Int):Prop:=w.ownsRow S 5 1 (.slice (some ⟨g,0,none⟩) n cap) n (b8 xs)∧n=xs.length
theorem BR.empty (w:World) (S:Nat) (h:S≤w.heap.size):BR (w.alloc (.cells #[] 5)) S w.heap.size 0 0 []:=
 ⟨⟨rfl,.inr ⟨w.heap.size,0,#[],rfl,h,heap_alloc_new w _,Nat.le_refl _,Nat.zero_le _,rfl,rfl⟩⟩,rfl⟩
theorem BR.text {w:World} {S g n cap:Nat} {xs:List Int} (h:BR w S g n cap xs):(convert 22 9 (.slice (some ⟨g,0,none⟩) n cap)).run Tryd.prog w=.ok (.string (strOfNums xs)) w:=by
 refine run_convert_bytes_arg w 22 5 Tryd.underlying22 Tryd.underlying5 g 0 _ cap xs h.2.symm (fun i hi=>?_) 9 Tryd.underlying9
 have hl:i < xs.length:=by have:=h.2; omega
 rcases h.1.2 with ⟨q,_⟩ | ⟨g',cap',cur,q,_,hg,_,_,_,ht⟩
 ·cases q
 ·cases q
  rw[Nat.zero_add,h.1.cellAt i (by rw [Nat.mul_one]; exact hi)]
  simp[b8,hl]
theorem BR.keep {w w':World} {S g n cap:Nat} {xs:List Int} (h:BR w S g n cap xs) (hb:Below w.heap.size w w'):BR w' S g n cap xs:=by
 refine⟨⟨h.1.1,?_⟩,h.2⟩
 rcases h.1.2 with q | ⟨g',cap',cur,q,h1,hg,h2⟩
 ·exact .inl q
 ·exact .inr ⟨g',cap',cur,q,h1,(hb.block g' (block_lt hg)).trans hg,h2⟩
theorem bytes_app1 {w:World} {S g n cap:Nat} {xs:List Int} {ops:Array Oper} {rest:List Oper} {o:Oper} {a:Act} {Q:Exit→Act→World→Prop} (hgd:o.guard=none) (s x:Operand)
  (ho:o.op=.call { callee:=.builtin .append,args:=#[s,x],argTypes:=#[22,22] }) (hs:a.eval s=.slice (some ⟨g,0,none⟩) n cap) (h:BR w S g n cap xs) (b c:Nat) (y:Int) (hx:a.eval x=.slice (some ⟨b,0,none⟩) 1 c) (hy:w.cell? ⟨b,0,none⟩=some (.int .u8 y))
  (h63:n≤100000) (hS:S≤w.heap.size)
  (hK:∀ g' cap' w',BR w' S g' (n+1) cap' (xs ++ [y])→w.grownBy w' (some g)→wpList Tryd.prog ops Q rest (a.put o.dst (.slice (some ⟨g',0,none⟩) (n+1) cap')) w'):wpList Tryd.prog ops Q (o :: rest) a w:=by
 obtain⟨i0,hi0,hz0,hz1,hz2⟩:=info_parts info_b8
 refine wpList_append_lies w hgd s x _ ho S 5 i0 _ 1 1 Tryd.underlying22 hi0 hz0 hz1 hz2 rfl (by omega) _ n (b8 xs) hs h.1 ⟨b,0,none⟩ 1 c [.int .u8 y] hx rfl (fun j u hu=>?_) (fun u hu=>?_) (by omega) (by unfold maxLen; omega) (by omega) hS _ rfl ?_
 ·cases j with
  | zero=>
   simp at hu
   rw[← hu]
   exact hy
  | succ j=>simp at hu
 ·rw[List.mem_singleton.1 hu]
  rfl
 ·intro g' cap' w' hown hg _ _
  refine hK g' cap' w' ⟨?_,by rw [List.length_append,h.2]; rfl⟩ hg
  rw[b8_app]
  exact hown
end Go.Proofs.YtcbbcadfolgioaaDoor

namespace Go.Proofs.YtcbbcadfolgioaaDoor.RunsMath
def sameN (f:Nat→Int) (n:Nat) (x:Int):Nat→Nat→Nat
 | 0,_=>0
 | m+1,i=>if i < n∧f i=x then 1+sameN f n x m (i+1) else 0
def zerosAt (f:Nat→Int) (n i:Nat):Nat:=sameN f n 0 138 i
def sameAt (f:Nat→Int) (n i:Nat):Nat:=if i=0 then 0 else sameN f n (f (i - 1)) 6 i
def runAt (f:Nat→Int) (n i:Nat):(Int×Int)×Nat:=
 if 11≤zerosAt f n i then ((18,(zerosAt f n i:Int) - 11),zerosAt f n i)
 else if 3≤zerosAt f n i then ((17,(zerosAt f n i:Int) - 3),zerosAt f n i)
 else if 3≤sameAt f n i then ((16,(sameAt f n i:Int) - 3),sameAt f n i)
 else ((f i,0),1)
def rest (f:Nat→Int) (n:Nat) (i:Nat):List (Int×Int):=
 if i < n then (runAt f n i).1 :: rest f n (i+max 1 (runAt f n i).2) else []
termination_by n - i
decreasing_by omega
/-! The way back. -/
def tell (out:List Int) (r:Int×Int):Option (List Int):=
 if r.1=16 then (if 0≤r.2∧r.2≤3∧0 < out.length then some (List.replicate (3+r.2).toNat (out.getD (out.length - 1) 0)) else none)
 else if r.1=17 then (if 0≤r.2∧r.2≤7 then some (List.replicate (3+r.2).toNat 0) else none)
 else if r.1=18 then (if 0≤r.2∧r.2≤127 then some (List.replicate (11+r.2).toNat 0) else none)
 else if 0≤r.1∧r.1≤15∧r.2=0 then some [r.1] else none
def back (z:Nat) (out:List Int):List (Int×Int)→Option (List Int)
 | []=>if out.length=z then some out else none
 | r :: R=>match tell out r with
  | none=>none
  | some more=>if out.length+more.length≤z then back z (out ++ more) R else none
end Go.Proofs.YtcbbcadfolgioaaDoor.RunsMath

namespace Go.Proofs.YtcbbcadfolgioaaDoor
open Go.RowKit Go.Joins RunsMath
theorem info_int:(Tryd.prog.info? 3).map (fun i=>(i.zero,i.size,i.bytes))=some (some (.int .i64 0),1,8):=by kernel_rfl
def ivals (l:List Int):List Value:=l.map fun x=>Value.int .i64 x
theorem ivals_length (l:List Int):(ivals l).length=l.length:=by simp [ivals]
theorem ivals_app (xs ys:List Int):ivals (xs ++ ys)=ivals xs ++ ivals ys:=by simp [ivals]
theorem ivals_get (l:List Int) (i:Nat) (h:i < l.length):(ivals l)[i]?=some (.int .i64 (l.getD i 0)):=by
 unfold ivals
 rw[List.getElem?_map,List.getElem?_eq_getElem h,List.getD_eq_getElem?_getD,List.getElem?_eq_getElem h]
 rfl
theorem ivals_one (l:List Int):∀ u∈ivals l,u.oneCell'=true:=by
 intro u hu
 obtain⟨x,_,rfl⟩:=List.mem_map.mp hu
 rfl
def NumRow (w:World) (S:Nat) (v:Value) (l:List Int):Prop:=w.ownsRow S 3 1 v l.length (ivals l)
theorem NumRow.empty (w:World) (S:Nat) (h:S≤w.heap.size):NumRow (w.alloc (.cells #[] 3)) S (.slice (some ⟨w.heap.size,0,none⟩) 0 0) []:=
 ⟨rfl,.inr ⟨w.heap.size,0,#[],rfl,h,heap_alloc_new w _,Nat.le_refl _,Nat.zero_le _,rfl,rfl⟩⟩
theorem NumRow.form {w:World} {S:Nat} {v:Value} {l:List Int} (h:NumRow w S v l):∃ a c,v=.slice a l.length c∧(a=none→c=0)∧l.length≤c∧Came w a l.length (fun i=>l.getD i 0)∧∀ ad,a=some ad→∀ j u,(ivals l)[j]?=some u→w.cell? (ad.add j)=some u:=by
 rcases h.2 with ⟨rfl,h0⟩ | ⟨g,cap,cur,rfl,hb,hg,hc,hm,hs,ht⟩
 ·exact⟨none,0,by rw [h0],fun _=>rfl,by omega,.inl h0,fun ad e=>by cases e⟩
 ·refine⟨_,cap,rfl,(fun e=>by cases e),hc,.inr ⟨g,0,rfl,block_lt hg,fun j hj=>?_⟩,fun ad e j u hu=>?_⟩
  ·rw[Nat.zero_add,h.cellAt j (by omega)]
   exact ivals_get l j hj
  ·cases e
   have hj:j < l.length:=by
    rcases Nat.lt_or_ge j l.length with k | k
    ·exact k
    ·rw[List.getElem?_eq_none (by rw [ivals_length]; exact k)] at hu; cases hu
   rw[Addr.add_lit,Nat.zero_add,h.cellAt j (by omega)]
   exact hu
theorem NumRow.called {w w':World} {S:Nat} {v:Value} {l:List Int} (h:NumRow w S v l) (hb:Below w.heap.size w w'):NumRow w' S v l:=by
 refine⟨h.1,?_⟩
 rcases h.2 with h | ⟨g,cap,cur,rfl,h1,h2,h3⟩
 ·exact .inl h
 ·exact .inr ⟨g,cap,cur,rfl,h1,(hb.block g (block_lt h2)).trans h2,h3⟩
end Go.Proofs.YtcbbcadfolgioaaDoor

namespace Go.Proofs.YtcbbcadfolgioaaDoor
open Go.RowKit Go.Joins
theorem nums_append1 {w:World} {S:Nat} {v:Value} {xs:List Int} {ops:Array Oper} {rest:List Oper} {o:Oper} {a:Act} {Q:Exit→Act→World→Prop} (hgd:o.guard=none) (s x:Operand)
  (ho:o.op=.call { callee:=.builtin .append,args:=#[s,x],argTypes:=#[24,24] }) (hs:a.eval s=v) (h:NumRow w S v xs) (g c:Nat) (y:Int) (hx:a.eval x=.slice (some ⟨g,0,none⟩) 1 c) (hy:w.cell? ⟨g,0,none⟩=some (.int .i64 y))
  (h63:xs.length≤100000) (hS:S≤w.heap.size)
  (hK:∀ v' w',NumRow w' S v' (xs ++ [y])→w.grownBy w' v.ownBlock→(v'.ownBlock=v.ownBlock∨v'.ownBlock=some w.heap.size)→wpList Tryd.prog ops Q rest (a.put o.dst v') w'):wpList Tryd.prog ops Q (o :: rest) a w:=by
 obtain⟨i0,hi0,hz0,hz1,hz2⟩:=info_parts info_int
 refine wpList_append_own_at w hgd s x _ ho S 3 i0 _ 1 8 Tryd.underlying24 hi0 hz0 hz1 hz2 rfl (by omega) v _ _ hs h ⟨g,0,none⟩ 1 c (ivals [y]) hx rfl (fun j u hu=>?_) (ivals_one _) (by unfold maxLen; omega) (by omega) hS ?_
 ·cases j with
  | zero=>
   simp[ivals] at hu
   rw[← hu]
   exact hy
  | succ j=>simp [ivals] at hu
 ·intro v' w' hown hg _ hk
  refine hK v' w' ?_ hg hk
  show w'.ownsRow S 3 1 v' (xs ++ [y]).length (ivals (xs ++ [y]))
  rw[List.length_append,ivals_app]
  exact hown
end Go.Proofs.YtcbbcadfolgioaaDoor
