/-
  Texts of the proof, put together.
-/
import Derived.Test.YtklpiihnbokkkaaGreatDoorFk13
namespace Go.Proofs.YtklpiihnbokkkaaGreatDoor
section
open Go.RowKit Go.Joins TokMath InfMath
def OR (w:World) (base:Nat) (v:Value) (O:List Int):Prop:=w.ownsRow base 5 1 v O.length (u8l O)
theorem OR.form {w:World} {base:Nat} {v:Value} {O:List Int} (h:OR w base v O):∃ a c,v=.slice a O.length c:=by
 rcases h.2 with ⟨rfl,h0⟩ | ⟨g,cap,cur,rfl,_⟩
 ·exact⟨none,0,by rw [h0]⟩
 ·exact⟨_,cap,rfl⟩
theorem OR.cell {w:World} {base:Nat} {v:Value} {O:List Int} (h:OR w base v O) {j:Nat} (hj:j < O.length):∃ g cap,v=.slice (some ⟨g,0,none⟩) O.length cap∧g < w.heap.size∧w.cell? ⟨g,j,none⟩=some (.int .u8 (O.getD j 0)):=by
 have h':w.ownsRow base 5 1 v O.length (u8l O):=h
 obtain⟨g,cap,rfl,hb,hg⟩:=World.ownsRow.form h' (by omega)
 refine⟨g,cap,rfl,hg,?_⟩
 rw[World.ownsRow.cellAt h' j (by omega)]
 unfold u8l
 rw[List.getElem?_map,List.getElem?_eq_getElem hj,List.getD_eq_getElem?_getD,List.getElem?_eq_getElem hj]
 rfl
section
variable {w0 w w':World} {b:Nat} {s:ByteArray} {p:Nat} {O:List Int} {most c:Nat} {Ty:List Int} {vo vt:Value}
end
end
section
open Go.RowKit Go.Joins TokMath
theorem NumRow.nil (w:World) (S:Nat):NumRow w S (.slice none 0 0) []:=⟨rfl,.inl ⟨rfl,rfl⟩⟩
theorem OR.nil (w:World) (S:Nat):OR w S (.slice none 0 0) []:=⟨rfl,.inl ⟨rfl,rfl⟩⟩
theorem bytes_append1 {w:World} {S:Nat} {v:Value} {xs:List Int} {ops:Array Oper} {rest:List Oper} {o:Oper} {a:Act} {Q:Exit→Act→World→Prop} (hgd:o.guard=none) (s x:Operand)
  (ho:o.op=.call { callee:=.builtin .append,args:=#[s,x],argTypes:=#[22,22] }) (hs:a.eval s=v) (h:OR w S v xs) (g c:Nat) (y:Int) (hx:a.eval x=.slice (some ⟨g,0,none⟩) 1 c) (hy:w.cell? ⟨g,0,none⟩=some (.int .u8 y))
  (h63:xs.length≤100000) (hS:S≤w.heap.size)
  (hK:∀ v' w',OR w' S v' (xs ++ [y])→w.grownBy w' v.ownBlock→(v'.ownBlock=v.ownBlock∨v'.ownBlock=some w.heap.size)→wpList Tryz.prog ops Q rest (a.put o.dst v') w'):wpList Tryz.prog ops Q (o :: rest) a w:=by
 obtain⟨i0,hi0,hz0,hz1,hz2⟩:=info_parts info_byte
 refine wpList_append_own_at w hgd s x _ ho S 5 i0 _ 1 1 Tryz.underlying22 hi0 hz0 hz1 hz2 rfl (by omega) v _ _ hs h ⟨g,0,none⟩ 1 c [.int .u8 y] hx rfl (fun j u hu=>?_) (fun u hu=>?_) (by unfold maxLen; omega) (by omega) hS ?_
 ·cases j with
  | zero=>
   simp at hu
   rw[← hu]
   exact hy
  | succ j=>simp at hu
 ·rw[List.mem_singleton.1 hu]
  rfl
 ·intro v' w' hown hg _ hk
  refine hK v' w' ?_ hg hk
  show w'.ownsRow S 5 1 v' (xs ++ [y]).length (u8l (xs ++ [y]))
  rw[List.length_append,← u8l_app]
  exact hown
end
section
open Go.RowKit Go.Joins
def Rd (w:World) (b:Nat) (s:ByteArray) (a:Int):Prop:=w.heap[b]?=some (.cells #[.string s,.int .i64 a] 55 (0,0))
theorem Rd.c0 {w:World} {b:Nat} {s:ByteArray} {a:Int} (h:Rd w b s a):w.cell? ⟨b,0,none⟩=some (.string s):=cell_of_block h 0
theorem Rd.c1 {w:World} {b:Nat} {s:ByteArray} {a:Int} (h:Rd w b s a):w.cell? ⟨b,1,none⟩=some (.int .i64 a):=cell_of_block h 1
theorem Rd.f {w:World} {b:Nat} {s:ByteArray} {a:Int} (h:Rd w b s a) (i:Nat):w.frozen? ⟨b,i,none⟩=false:=unfrozen_of_block h i
theorem Rd.set {w:World} {b:Nat} {s:ByteArray} {a:Int} (h:Rd w b s a) (x:Int):Rd (w.setCell ⟨b,1,none⟩ (.int .i64 x)) b s x:=by
 have:=block_setCell (i:=1) h (.int .i64 x)
 simpa [Rd] using this
theorem Rd.lt {w:World} {b:Nat} {s:ByteArray} {a:Int} (h:Rd w b s a):b < w.heap.size:=by
 rcases Nat.lt_or_ge b w.heap.size with k | k
 ·exact k
 ·unfold Rd at h; rw [Array.getElem?_eq_none k] at h; cases h
end
section
open Go.RowKit Go.Joins TokMath
def FB (w:World) (fb rb:Nat) (vo:Value) (most:Nat) (vt:Value):Prop:=w.heap[fb]?=some (.cells #[.pointer (some ⟨rb,0,none⟩),vo,.int .i64 (most:Int),vt] 52 (0,0))
section
variable {w w':World} {fb rb:Nat} {vo:Value} {most:Nat} {vt:Value}
theorem FB.lt (h:FB w fb rb vo most vt):fb < w.heap.size:=block_lt h
theorem FB.cells (h:FB w fb rb vo most vt):w.cell? ⟨fb,0,none⟩=some (.pointer (some ⟨rb,0,none⟩))∧w.cell? ⟨fb,1,none⟩=some vo∧w.cell? ⟨fb,2,none⟩=some (.int .i64 (most:Int))∧w.cell? ⟨fb,3,none⟩=some vt:=
 ⟨(cell_of_block h 0).trans rfl,(cell_of_block h 1).trans rfl,(cell_of_block h 2).trans rfl,(cell_of_block h 3).trans rfl⟩
theorem FB.free (h:FB w fb rb vo most vt) (q:Nat):w.frozen? ⟨fb,q,none⟩=false:=by
 unfold FB at h
 simp[World.frozen?,h]
theorem FB.made (h:FB w fb rb vo most vt) (v:Value):FB (w.setCell ⟨fb,1,none⟩ v) fb rb v most vt:=by
 have:=block_setCell (i:=1) h v
 unfold FB
 simpa using this
theorem FB.types (h:FB w fb rb vo most vt) (v:Value):FB (w.setCell ⟨fb,3,none⟩ v) fb rb vo most v:=by
 have:=block_setCell (i:=3) h v
 unfold FB
 simpa using this
end
def Safe (w:World) (fb rb:Nat) (vo vt:Value) (k:Nat):Prop:=k < w.heap.size∧k≠fb∧k≠rb∧vo.ownBlock≠some k∧vt.ownBlock≠some k
structure Step (fb rb:Nat) (w:World) (vo vt:Value) (w':World) (vo' vt':Value):Prop where
 os:w'.os=w.os
 tape:w'.tape=w.tape
 output:w'.output=w.output
 size:w.heap.size≤w'.heap.size
 block:∀ k,Safe w fb rb vo vt k→Safe w' fb rb vo' vt' k∧w'.heap[k]?=w.heap[k]?
section
variable {fb rb:Nat} {w w1 w':World} {vo vt vo1 vt1 vo' vt':Value}
theorem Step.refl (w:World):Step fb rb w vo vt w vo vt:=⟨rfl,rfl,rfl,Nat.le_refl _,fun _ h=>⟨h,rfl⟩⟩
theorem Step.trans (h:Step fb rb w vo vt w1 vo1 vt1) (k:Step fb rb w1 vo1 vt1 w' vo' vt'):Step fb rb w vo vt w' vo' vt':=
 ⟨k.os.trans h.os,k.tape.trans h.tape,k.output.trans h.output,Nat.le_trans h.size k.size,fun i hi=>⟨(k.block i (h.block i hi).1).1,(k.block i (h.block i hi).1).2.trans (h.block i hi).2⟩⟩
theorem Step.one {row:Option Nat} (hg:w.grownBy w' row) (hr:∀ k,row=some k→k=fb∨k=rb∨vo.ownBlock=some k∨vt.ownBlock=some k):Step fb rb w vo vt w' vo vt:=
 ⟨hg.os,hg.tape,hg.output,hg.size,fun k h=>⟨⟨Nat.lt_of_lt_of_le h.1 hg.size,h.2⟩,hg.block k h.1 (fun e=>by
  rcases hr k e.symm with q | q | q | q
  ·exact h.2.1 q
  ·exact h.2.2.1 q
  ·exact h.2.2.2.1 q
  ·exact h.2.2.2.2 q)⟩⟩
theorem Step.called (hb:Below w.heap.size w w'):Step fb rb w vo vt w' vo vt:=⟨hb.os,hb.tape,hb.output,hb.size,fun k h=>⟨⟨Nat.lt_of_lt_of_le h.1 hb.size,h.2⟩,hb.block k h.1⟩⟩
theorem Step.made (h:Step fb rb w vo vt w' vo vt) (hv:∀ k,vo'.ownBlock=some k→vo.ownBlock=some k∨w.heap.size≤k):Step fb rb w vo vt w' vo' vt:=
 ⟨h.os,h.tape,h.output,h.size,fun k hk=>⟨⟨(h.block k hk).1.1,hk.2.1,hk.2.2.1,fun e=>by
  rcases hv k e with q | q
  ·exact hk.2.2.2.1 q
  ·have:=hk.1
   omega,hk.2.2.2.2⟩,(h.block k hk).2⟩⟩
theorem Step.types (h:Step fb rb w vo vt w' vo vt) (hv:∀ k,vt'.ownBlock=some k→vt.ownBlock=some k∨w.heap.size≤k):Step fb rb w vo vt w' vo vt':=
 ⟨h.os,h.tape,h.output,h.size,fun k hk=>⟨⟨(h.block k hk).1.1,hk.2.1,hk.2.2.1,hk.2.2.2.1,fun e=>by
  rcases hv k e with q | q
  ·exact hk.2.2.2.2 q
  ·have:=hk.1
   omega⟩,(h.block k hk).2⟩⟩
end
def PS (B:Nat) (w:World) (fb rb:Nat) (s:ByteArray) (p:Nat) (O:List Int) (most:Nat) (Ty:List Int) (vo vt:Value):Prop:=
 FB w fb rb vo most vt∧Rd w rb s (p:Int)∧OR w B vo O∧NumRow w B vt Ty∧(vo.ownBlock=none∨vo.ownBlock≠vt.ownBlock)∧(vo.ownBlock≠some fb∧vt.ownBlock≠some fb)∧(vo.ownBlock≠some rb∧vt.ownBlock≠some rb)∧fb≠rb∧B≤fb∧B≤rb∧B≤w.heap.size
section
variable {B:Nat} {w w1 w':World} {fb rb:Nat} {s:ByteArray} {p:Nat} {O:List Int} {most:Nat} {Ty:List Int} {vo vt:Value}
theorem PS.ltf (h:PS B w fb rb s p O most Ty vo vt):fb < w.heap.size:=h.1.lt
theorem PS.ltr (h:PS B w fb rb s p O most Ty vo vt):rb < w.heap.size:=h.2.1.lt
theorem PS.safe (h:PS B w fb rb s p O most Ty vo vt) {k:Nat} (hk:k < B):Safe w fb rb vo vt k:=by
 obtain⟨h1,h2,h3,h4,h5,h6,h7,h8,h9,h10,h11⟩:=h
 refine⟨by omega,by omega,by omega,fun e=>?_,fun e=>?_⟩
 ·have:=(World.ownsRow.lt h3 k e).1
  omega
 ·have:=(World.ownsRow.lt h4 k e).1
  omega
theorem PS.below {vo' vt':Value} (h:PS B w fb rb s p O most Ty vo vt) (hs:Step fb rb w vo vt w' vo' vt'):Below B w w':=⟨hs.os,hs.tape,hs.output,hs.size,fun k hk=>(hs.block k (h.safe hk)).2⟩
theorem PS.read {q:Nat} (h:PS B w fb rb s p O most Ty vo vt) (hr:Rd w' rb s (q:Int)) (hg:w.grownBy w' (some rb)):PS B w' fb rb s q O most Ty vo vt:=by
 obtain⟨h1,h2,h3,h4,h5,h6,h7,h8,h9,h10,h11⟩:=h
 exact⟨(hg.block fb h1.lt (fun e=>h8 (by cases e; rfl))).trans h1,hr,World.ownsRow.kept h3 hg (.inr h7.1),World.ownsRow.kept h4 hg (.inr h7.2),h5,h6,h7,h8,h9,h10,Nat.le_trans h11 hg.size⟩
theorem PS.called (h:PS B w fb rb s p O most Ty vo vt) (hb:Below w.heap.size w w'):PS B w' fb rb s p O most Ty vo vt:=h.read ((hb.block rb h.ltr).trans h.2.1) (grown_called hb _)
theorem PS.other {row:Option Nat} (h:PS B w fb rb s p O most Ty vo vt) (hg:w.grownBy w' row) (hr:∀ k,row=some k→k≠fb∧k≠rb∧vo.ownBlock≠some k∧vt.ownBlock≠some k):PS B w' fb rb s p O most Ty vo vt:=by
 obtain⟨h1,h2,h3,h4,h5,h6,h7,h8,h9,h10,h11⟩:=h
 have ne:∀ v:Value,(∀ k,row=some k→v.ownBlock≠some k)→v.ownBlock=none∨v.ownBlock≠row:=fun v hv=>by
  cases e:row with
  | none=>
   cases e2:v.ownBlock with
   | none=>exact .inl rfl
   | some k=>exact .inr (fun q=>by cases q)
  | some k=>exact .inr (hv k e)
 exact⟨(hg.block fb h1.lt (fun e=>(hr fb e.symm).1 rfl)).trans h1,(hg.block rb h2.lt (fun e=>(hr rb e.symm).2.1 rfl)).trans h2,World.ownsRow.kept h3 hg (ne vo fun k e=>(hr k e).2.2.1),World.ownsRow.kept h4 hg (ne vt fun k e=>(hr k e).2.2.2),h5,h6,h7,h8,h9,h10,Nat.le_trans h11 hg.size⟩
theorem PS.made {O':List Int} {v':Value} (h:PS B w fb rb s p O most Ty vo vt) (y1:OR w1 B v' O') (y2:w.grownBy w1 vo.ownBlock) (y3:v'.ownBlock=vo.ownBlock∨∀ k,v'.ownBlock=some k→w.heap.size≤k):
  FB w1 fb rb vo most vt∧PS B (w1.setCell ⟨fb,1,none⟩ v') fb rb s p O' most Ty v' vt∧Step fb rb w vo vt (w1.setCell ⟨fb,1,none⟩ v') v' vt:=by
 obtain⟨h1,h2,h3,h4,h5,h6,h7,h8,h9,h10,h11⟩:=h
 have k1:FB w1 fb rb vo most vt:=(y2.block fb h1.lt (fun e=>h6.1 e.symm)).trans h1
 have k2:Rd w1 rb s (p:Int):=(y2.block rb h2.lt (fun e=>h7.1 e.symm)).trans h2
 have hvt:vt.ownBlock=none∨vt.ownBlock≠vo.ownBlock:=by
  cases e:vt.ownBlock with
  | none=>exact .inl rfl
  | some k=>
   refine .inr (fun e1=>?_)
   rcases h5 with q | q
   ·rw[q] at e1
    cases e1
   ·exact q (by rw [← e1,e])
 have ne:∀ k,(vo.ownBlock≠some k)→k < w.heap.size→v'.ownBlock≠some k:=fun k hk hl e=>by
  rcases y3 with q | q
  ·exact hk (by rw [← q]; exact e)
  ·have:=q k e
   omega
 have hgs:=grown_cell w1 fb 1 v'
 have f1:=ne fb h6.1 h1.lt
 have f2:=ne rb h7.1 h2.lt
 refine⟨k1,⟨k1.made v',(hgs.block rb k2.lt (fun e=>h8 (by cases e; rfl))).trans k2,World.ownsRow.kept y1 hgs (.inr f1),World.ownsRow.kept (World.ownsRow.kept h4 y2 hvt) hgs (.inr h6.2),?_,⟨f1,h6.2⟩,⟨f2,h7.2⟩,h8,h9,h10,Nat.le_trans h11 (Nat.le_trans y2.size hgs.size)⟩,?_⟩
 ·cases e:v'.ownBlock with
  | none=>exact .inl rfl
  | some k=>
   refine .inr (fun e1=>?_)
   rcases y3 with q | q
   ·rcases hvt with q1 | q1
    ·rw[q1] at e1
     cases e1
    ·exact q1 (by rw [← e1,← e,q])
   ·have l1:=q k e
    have l2:=(World.ownsRow.lt h4 k e1.symm).2
    omega
 ·have s1:Step fb rb w vo vt w1 vo vt:=Step.one y2 (fun k e=>.inr (.inr (.inl e)))
  have s2:Step fb rb w1 vo vt (w1.setCell ⟨fb,1,none⟩ v') vo vt:=Step.one hgs (fun k e=>.inl (by cases e; rfl))
  refine Step.made (s1.trans s2) (fun k e=>?_)
  rcases y3 with q | q
  ·exact .inl (by rw [← q]; exact e)
  ·exact .inr (q k e)
theorem PS.typed {Ty':List Int} {v':Value} (h:PS B w fb rb s p O most Ty vo vt) (y1:NumRow w1 B v' Ty') (y2:w.grownBy w1 vt.ownBlock) (y3:v'.ownBlock=vt.ownBlock∨∀ k,v'.ownBlock=some k→w.heap.size≤k):
  FB w1 fb rb vo most vt∧PS B (w1.setCell ⟨fb,3,none⟩ v') fb rb s p O most Ty' vo v'∧Step fb rb w vo vt (w1.setCell ⟨fb,3,none⟩ v') vo v':=by
 obtain⟨h1,h2,h3,h4,h5,h6,h7,h8,h9,h10,h11⟩:=h
 have k1:FB w1 fb rb vo most vt:=(y2.block fb h1.lt (fun e=>h6.2 e.symm)).trans h1
 have k2:Rd w1 rb s (p:Int):=(y2.block rb h2.lt (fun e=>h7.2 e.symm)).trans h2
 have ne:∀ k,(vt.ownBlock≠some k)→k < w.heap.size→v'.ownBlock≠some k:=fun k hk hl e=>by
  rcases y3 with q | q
  ·exact hk (by rw [← q]; exact e)
  ·have:=q k e
   omega
 have hgs:=grown_cell w1 fb 3 v'
 have f1:=ne fb h6.2 h1.lt
 have f2:=ne rb h7.2 h2.lt
 refine⟨k1,⟨k1.types v',(hgs.block rb k2.lt (fun e=>h8 (by cases e; rfl))).trans k2,World.ownsRow.kept (World.ownsRow.kept h3 y2 h5) hgs (.inr h6.1),World.ownsRow.kept y1 hgs (.inr f1),?_,⟨h6.1,f1⟩,⟨h7.1,f2⟩,h8,h9,h10,Nat.le_trans h11 (Nat.le_trans y2.size hgs.size)⟩,?_⟩
 ·cases e:vo.ownBlock with
  | none=>exact .inl rfl
  | some k=>
   refine .inr (fun e1=>?_)
   rcases y3 with q | q
   ·rcases h5 with q1 | q1
    ·rw[q1] at e
     cases e
    ·exact q1 (by rw [e,e1,q])
   ·have l1:=q k e1.symm
    have l2:=(World.ownsRow.lt h3 k e).2
    omega
 ·have s1:Step fb rb w vo vt w1 vo vt:=Step.one y2 (fun k e=>.inr (.inr (.inr e)))
  have s2:Step fb rb w1 vo vt (w1.setCell ⟨fb,3,none⟩ v') vo vt:=Step.one hgs (fun k e=>.inl (by cases e; rfl))
  refine Step.types (s1.trans s2) (fun k e=>?_)
  rcases y3 with q | q
  ·exact .inl (by rw [← q]; exact e)
  ·exact .inr (q k e)
end
abbrev errV (c:Nat):Value:=.iface 87 (.agg #[.int .i64 (c:Int)])
end
section
open Go.RowKit Go.Joins OutMath TakeMath InfMath
theorem grown_draws (w:World) (n:Nat) (row:Option Nat):w.grownBy (w.drewN n) row:=⟨rfl,rfl,rfl,Nat.le_refl _,fun _ _ _=>rfl⟩
set_option maxHeartbeats 400000 in
theorem takeBit_own (s:ByteArray) (a:Nat) (b:Nat) (w:World) (hR:Rd w b s a) (hs:s.size≤12000) (ha:a < 8 * s.size):
  Calls Tryz.prog 179 #[.pointer (some ⟨b,0,none⟩)] w fun e w'=>e=.returned (.int .i64 (bit s a))∧Rd w' b s ((a+1:Nat):Int)∧w.grownBy w' (some b):=by
 have c0:=hR.c0
 have c1:=hR.c1
 have hlt:=hR.lt
 have f0:=hR.f
 have hset:=fun (n:Nat)=>Rd.set (w:=w.drewN n) hR ((a:Int)+1)
 have HS:Hid (∀ n:Nat,Rd ((w.drewN n).setCell ⟨b,1,none⟩ (.int .i64 ((a:Int)+1))) b s ((a:Int)+1)):=hset
 clear hR hset
 have d:decide (8 * (s.size:Int)≤(a:Int))=false:=by simp; omega
 have hix:=index_byteI s ((a:Int) / 8) (a / 8) (by omega) (by omega)
 have hy:=byteAt_lt s (a / 8)
 have HB:Hid (bits .and .i64 (wrap64 ((byteAt s (a / 8):Int) / 2 ^ (a % 8))) 1=bit s a):=bit_and s a
 have q1:(a:Int).tdiv 8=(a:Int) / 8:=Int.tdiv_eq_ediv_of_nonneg (by omega)
 have q2:(a:Int).tmod 8=(a:Int) % 8:=Int.tmod_eq_emod_of_nonneg (by omega)
 have q3:IntKind.i64.wrap ((a:Int) / 8)=(a:Int) / 8:=by rw [IntKind.wrap_i64]; omega
 go_enter Tryz.func179,Tryz.ntmps179
 go_wp2
 go_quiet (fail)
 go_wp2
 go_quiet (fail)
 go_wp2
 go_ret
 exact⟨ret_i HB.out,HS.out _,(grown_draws _ _ _).trans (grown_cell _ _ _ _)⟩
set_option maxHeartbeats 400000 in
theorem takeNumber_own (s:ByteArray) (a n:Nat) (b:Nat) (w:World) (hR:Rd w b s a) (hs:s.size≤12000) (hn:n≤24) (ha:a+n≤8 * s.size):
  Calls Tryz.prog 139 #[.pointer (some ⟨b,0,none⟩),.int .i64 n] w fun e w'=>e=.returned (.int .i64 (num s a n))∧Rd w' b s ((a+n:Nat):Int)∧w.grownBy w' (some b):=by
 have d1:decide ((n:Int) < 0)=false:=by simp
 have d2:decide ((24:Int) < n)=false:=by simp; omega
 have HR:Hid (Rd w b s a):=hR
 clear hR
 go_enter Tryz.func139,Tryz.ntmps139
 go_wp2_with fail
 go_loopw [5,16] (fun x k w'=>∃ j:Nat,j≤n∧k=.int .i64 j∧x=.int .i64 (num s a j)∧Hid (Rd w' b s ((a+j:Nat):Int))∧Hid (w.grownBy w' (some b))) (fun _ k _=>n - (intOf k).toNat)
 case atStart=>exact⟨0,Nat.zero_le _,rfl,rfl,HR.out,grown_draws w 0 _⟩
 case round=>
  obtain⟨j,hj,rfl,rfl,hR,hB⟩:=hrel
  have hb:=num_bd s a j
  have hp:=p2_pos j
  by_cases hlt:j < n
  ·have hp4:=p2_24 (n:=j) (by omega)
   have h01:=bit_01 s (a+j)
   have hm:=mul01 _ _ h01.1 h01.2 hp
   have HO:Hid (bits .or .i64 (num s a j) (wrap64 (bit s (a+j) * 2 ^ j))=num s a (j+1)):=or_bitW _ _ _ (by omega) hb.1 hb.2 h01.1 h01.2
   go_wp2_with fail
   refine (takeBit_own s (a+j) b _ hR.out hs (by omega)).mono ?_
   rintro e w1 ⟨rfl,hR1,hB1⟩
   have HR1:Hid (Rd w1 b s ((a+(j+1):Nat):Int)):=hR1
   have HB1:=hid_of (hB.out.trans hB1)
   clear hR1 hB1
   go_wp2_with fail
   go_roundw
   case rel=>exact⟨j+1,by omega,by go_num,by rw [HO.out],HR1,HB1⟩
   case measure=>simp [intOf]; omega
  ·obtain rfl:j=n:=by omega
   go_wp2_with fail
   go_ret
   exact⟨rfl,hR.out,hB.out⟩
set_option maxHeartbeats 400000 in
theorem bytesFor_small (x:Nat) (w:World) (h:x≤1000000):
  Calls Tryz.prog 27 #[.int .i64 (x:Int)] w fun e w'=>e=.returned (.int .i64 (((x+7) / 8:Nat):Int))∧w'=w:=by
 have q1:((x:Int)+7).tdiv 8=(((x+7) / 8:Nat):Int):=by
  rw[Int.tdiv_eq_ediv_of_nonneg (by omega)]
  omega
 go_enter Tryz.func27,Tryz.ntmps27
 go_wp2
 go_ret
 exact⟨ret_i (by omega),rfl⟩
set_option maxHeartbeats 400000 in
theorem passToByte_own (s:ByteArray) (a:Nat) (b:Nat) (w:World) (hR:Rd w b s a) (ha:a≤100000):
  Calls Tryz.prog 140 #[.pointer (some ⟨b,0,none⟩)] w fun e w'=>e=.returned (.tuple #[])∧Rd w' b s ((8 * ((a+7) / 8):Nat):Int)∧w.grownBy w' (some b):=by
 have c0:=hR.c0
 have c1:=hR.c1
 have hlt:=hR.lt
 have f0:=hR.f
 have HS:Hid (∀ x:Int,Rd (w.setCell ⟨b,1,none⟩ (.int .i64 x)) b s x):=fun x=>Rd.set hR x
 clear hR
 have hbf:=bytesFor_small a w (by omega)
 have hq:((a+7) / 8:Nat)≤100000:=by omega
 generalize hqq:(a+7) / 8=q at hbf hq
 clear hqq
 go_enter Tryz.func140,Tryz.ntmps140
 go_wp2_with fail
 refine hbf.mono ?_
 rintro e w1 ⟨rfl,rfl⟩
 clear hbf
 go_wp2_with fail
 go_end0
 exact⟨rfl,by have:=HS.out (8 * (q:Int)); rw [show ((8 * q:Nat):Int)=8 * (q:Int) by omega]; exact this,grown_cell _ _ _ _⟩
section
variable (B:Nat) (w:World) (fb rb:Nat) (s:ByteArray) (p:Nat) (O:List Int) (most:Nat) (Ty:List Int) (vo vt:Value)
set_option maxHeartbeats 400000 in
theorem take_yes (h:PS B w fb rb s p O most Ty vo vt) (hs:s.size≤12000) (n:Nat) (hn:n≤24) (ha:p+n≤8 * s.size):
  Calls Tryz.prog 92 #[.pointer (some ⟨fb,0,none⟩),.int .i64 (n:Int)] w fun e w'=>e=.returned (.tuple #[.int .i64 (num s p n),.nilIface])∧PS B w' fb rb s (p+n) O most Ty vo vt∧w.grownBy w' (some rb):=by
 have HH:=hid_of h
 have c0:=h.1.cells.1
 have r0:=h.2.1.c0
 have r1:=h.2.1.c1
 have hl:=h.ltf
 have hl2:=h.ltr
 have htk:=fun (w:World) (hR:Rd w rb s (p:Int))=>takeNumber_own s p n rb w hR hs hn ha
 have HR:Hid (∀ k,Rd (w.drewN k) rb s (p:Int)):=fun k=>h.2.1
 clear h
 have d1:decide (8 * (s.size:Int) < (p:Int)+(n:Int))=false:=decide_eq_false (by omega)
 go_enter Tryz.func92,Tryz.ntmps92
 go_wp2_with fail
 go_quiet (fail)
 go_wp2_with fail
 refine (htk _ (HR.out _)).mono ?_
 rintro e w1 ⟨rfl,hR1,hg1⟩
 have HE:=hid_of (And.intro (HH.out.read hR1 ((grown_draws _ _ _).trans hg1)) ((grown_draws w _ _).trans hg1))
 clear htk hR1 hg1 HR HH
 go_wp2_with fail
 go_ret2
 exact⟨rfl,HE.out⟩
set_option maxHeartbeats 400000 in
theorem take_no (h:PS B w fb rb s p O most Ty vo vt) (hs:s.size≤12000) (hp:p≤8 * s.size) (n:Nat) (hn:n≤24) (ha:¬ p+n≤8 * s.size):
  Calls Tryz.prog 92 #[.pointer (some ⟨fb,0,none⟩),.int .i64 (n:Int)] w fun e w'=>e=.returned (.tuple #[.int .i64 0,errV 2])∧PS B w' fb rb s p O most Ty vo vt∧w.grownBy w' (some rb):=by
 have HH:Hid (∀ k,PS B (w.drewN k) fb rb s p O most Ty vo vt):=fun k=>h.called ⟨rfl,rfl,rfl,Nat.le_refl _,fun _ _=>rfl⟩
 have c0:=h.1.cells.1
 have r0:=h.2.1.c0
 have r1:=h.2.1.c1
 have hl:=h.ltf
 have hl2:=h.ltr
 clear h
 have d1:decide (8 * (s.size:Int) < (p:Int)+(n:Int))=true:=decide_eq_true (by omega)
 go_enter Tryz.func92,Tryz.ntmps92
 go_wp2_with fail
 go_quiet (fail)
 go_wp2_with fail
 go_ret2
 exact⟨rfl,HH.out _,grown_draws _ _ _⟩
end
end
section
namespace CodeMath
open OutMath
def cs (f:Nat→Int) (k:Nat):Nat→Int:=fun s=>if s=0 then 0 else cntS f s k
theorem cs_start (f:Nat→Int) (s:Nat):cs f 0 s=0:=by unfold cs; split <;> rfl
theorem cs_step (f:Nat→Int) (k:Nat) (h:0≤f k) (s:Nat):cs f (k+1) s=cs f k s+(if 0 < f k∧s=(f k).toNat then 1 else 0):=by
 unfold cs
 by_cases h0:s=0
 ·subst h0
  rw[if_pos rfl,if_pos rfl,if_neg (by omega)]
  omega
 ·rw[if_neg h0,if_neg h0]
  show cntS f s k+(if f k=s then 1 else 0)=_
  by_cases h1:f k=s
  ·rw[if_pos h1,if_pos (by omega)]
  ·rw[if_neg h1,if_neg (by omega)]
theorem cs_bd (f:Nat→Int) (k s:Nat):0≤cs f k s∧cs f k s≤k:=by
 unfold cs
 split
 ·omega
 ·exact cntS_bd f s k
def fullS (g:Nat→Int):Nat→Int
 | 0=>0
 | k+1=>fullS g k+g k * p2 (15 - k)
theorem fullS_step (f:Nat→Int) (n:Nat) (h:0≤f n):∀ k,k≤16→fullS (cs f (n+1)) k=fullS (cs f n) k+(if 0 < f n∧f n < k then p2 (15 - f n).toNat else 0)
 | 0,_=>by
  rw[if_neg (by omega)]
  rfl
 | k+1,hk=>by
  have ih:=fullS_step f n h k (by omega)
  show fullS (cs f (n+1)) k+cs f (n+1) k * p2 (15 - k)=fullS (cs f n) k+cs f n k * p2 (15 - k)+_
  rw[ih,cs_step f n h k,Int.add_mul]
  by_cases h1:0 < f n
  ·by_cases h2:k=(f n).toNat
   ·rw[if_neg (by omega),if_pos ⟨h1,h2⟩,if_pos (by omega),show (15 - f n).toNat=15 - k by omega]
    omega
   ·rw[if_neg (show ¬ (0 < f n∧k=(f n).toNat) by omega)]
    by_cases h3:f n < k
    ·rw[if_pos (by omega),if_pos (by omega)]
     omega
    ·rw[if_neg (by omega),if_neg (by omega)]
     omega
  ·rw[if_neg (by omega),if_neg (by omega),if_neg (by omega)]
   omega
theorem fullS_zero:∀ k,fullS (fun _=>0) k=0
 | 0=>rfl
 | k+1=>by
  show fullS (fun _=>0) k+0 * p2 (15 - k)=0
  rw[fullS_zero k,Int.zero_mul]
  rfl
theorem fullS_congr {g g':Nat→Int} (h:∀ s,g s=g' s):∀ k,fullS g k=fullS g' k
 | 0=>rfl
 | k+1=>by
  show fullS g k+g k * p2 (15 - k)=fullS g' k+g' k * p2 (15 - k)
  rw[fullS_congr h k,h k]
theorem full_room (f:Nat→Int):∀ n,OkLens f n→fullS (cs f n) 16=room f n
 | 0,_=>by rw [fullS_congr (cs_start f),fullS_zero]; rfl
 | n+1,h=>by
  have hn:=h n (by omega)
  rw[fullS_step f n hn.1 16 (by omega),full_room f n (fun i hi=>h i (by omega))]
  show _=room f n+(if 0 < f n then p2 (15 - f n).toNat else 0)
  by_cases h1:0 < f n
  ·rw[if_pos (by omega),if_pos h1]
  ·rw[if_neg (by omega),if_neg h1]
theorem fullS_bd (g:Nat→Int) (hg:∀ s,0≤g s∧g s≤288):∀ k,0≤fullS g k∧fullS g k≤9437184 * k
 | 0=>by simp [fullS]
 | k+1=>by
  have ih:=fullS_bd g hg k
  have h:=hg k
  have hp:=p2_pos (15 - k)
  have hq:=p2_le (show 15 - k≤15 by omega)
  have e:p2 15=32768:=by decide +kernel
  have a:0≤g k * p2 (15 - k):=Int.mul_nonneg h.1 (by omega)
  have b:g k * p2 (15 - k)≤288 * p2 (15 - k):=Int.mul_le_mul_of_nonneg_right h.2 (by omega)
  show 0≤fullS g k+g k * p2 (15 - k)∧fullS g k+g k * p2 (15 - k)≤_
  omega
theorem shl_part (g:Nat→Int) (hg:∀ s,0≤g s∧g s≤288) (k:Nat):0≤g k * p2 (15 - k)∧g k * p2 (15 - k)≤9437184:=by
 have h:=hg k
 have hp:=p2_pos (15 - k)
 have hq:=p2_le (show 15 - k≤15 by omega)
 have e:p2 15=32768:=by decide +kernel
 have a:0≤g k * p2 (15 - k):=Int.mul_nonneg h.1 (by omega)
 have b:g k * p2 (15 - k)≤288 * p2 (15 - k):=Int.mul_le_mul_of_nonneg_right h.2 (by omega)
 omega
theorem cnt_step (f:Nat→Int) (k:Nat):cnt f (k+1)=cnt f k+(if 0 < f k then 1 else 0):=rfl
def sumS (g:Nat→Int):Nat→Int
 | 0=>0
 | k+1=>sumS g k+g k
theorem sumS_step (f:Nat→Int) (n:Nat) (h:0≤f n):∀ k,k≤16→sumS (cs f (n+1)) k=sumS (cs f n) k+(if 0 < f n∧f n < k then 1 else 0)
 | 0,_=>by rw [if_neg (by omega)]; rfl
 | k+1,hk=>by
  have ih:=sumS_step f n h k (by omega)
  show sumS (cs f (n+1)) k+cs f (n+1) k=sumS (cs f n) k+cs f n k+_
  rw[ih,cs_step f n h k]
  by_cases h1:0 < f n
  ·by_cases h2:k=(f n).toNat
   ·rw[if_neg (by omega),if_pos ⟨h1,h2⟩,if_pos (by omega)]
    omega
   ·rw[if_neg (show ¬ (0 < f n∧k=(f n).toNat) by omega)]
    by_cases h3:f n < k
    ·rw[if_pos (by omega),if_pos (by omega)]
     omega
    ·rw[if_neg (by omega),if_neg (by omega)]
     omega
  ·rw[if_neg (by omega),if_neg (by omega),if_neg (by omega)]
   omega
theorem sum_cnt (f:Nat→Int):∀ n,OkLens f n→sumS (cs f n) 16=cnt f n
 | 0,_=>by
  have:∀ k,sumS (cs f 0) k=0:=by
   intro k
   induction k with
   | zero=>rfl
   | succ k ih=>show sumS (cs f 0) k+cs f 0 k=0; rw [ih,cs_start]; rfl
  rw[this]
  rfl
 | n+1,h=>by
  have hn:=h n (by omega)
  rw[sumS_step f n hn.1 16 (by omega),sum_cnt f n (fun i hi=>h i (by omega)),cnt_step]
  by_cases h1:0 < f n
  ·rw[if_pos (by omega),if_pos h1]
  ·rw[if_neg (by omega),if_neg h1]
def one1:Nat→Int:=fun s=>if s=1 then 1 else 0
theorem cs_none {f:Nat→Int} {n:Nat} (h:OkLens f n):cnt f n=0↔∀ s,s < 16→cs f n s=0:=by
 rw[← sum_cnt f n h]
 have b:=fun s=>(cs_bd f n s).1
 generalize cs f n=g at b
 constructor
 ·intro e
  have key:∀ k,k≤16→sumS g k≤sumS g 16∧0≤sumS g k:=by
   have mono:∀ d k,sumS g k≤sumS g (k+d):=by
    intro d k
    induction d with
    | zero=>exact Int.le_refl _
    | succ d ih=>show _≤sumS g (k+d)+g (k+d); have:=b (k+d); omega
   intro k hk
   have m:=mono (16 - k) k
   have z:=mono k 0
   rw[show k+(16 - k)=16 by omega] at m
   rw[Nat.zero_add] at z
   exact⟨m,z⟩
  intro s hs
  have k1:=key s (by omega)
  have k2:=key (s+1) (by omega)
  have e2:sumS g (s+1)=sumS g s+g s:=rfl
  have:=b s
  omega
 ·intro e
  have key:∀ k,k≤16→sumS g k=0:=by
   intro k
   induction k with
   | zero=>intro _; rfl
   | succ k ih=>intro hk; show sumS g k+g k=0; rw [ih (by omega),e k (by omega)]; rfl
  exact key 16 (by omega)
theorem cs_single {f:Nat→Int} {n:Nat} (h:OkLens f n):(cnt f n=1∧room f n=16384)↔∀ s,s < 16→cs f n s=one1 s:=by
 rw[← sum_cnt f n h,← full_room f n h]
 have b:=fun s=>(cs_bd f n s).1
 have z:cs f n 0=0:=rfl
 generalize cs f n=g at b z
 have e1:sumS g 16=g 0+g 1+g 2+g 3+g 4+g 5+g 6+g 7+g 8+g 9+g 10+g 11+g 12+g 13+g 14+g 15:=by
  simp only [sumS]; omega
 have e2:fullS g 16=g 0 * 32768+g 1 * 16384+g 2 * 8192+g 3 * 4096+g 4 * 2048+g 5 * 1024+g 6 * 512+g 7 * 256+g 8 * 128+g 9 * 64+g 10 * 32+g 11 * 16+g 12 * 8+g 13 * 4+g 14 * 2+g 15:=by
  simp only [fullS,p2]; omega
 rw[e1,e2]
 have b1:=b 1
 have b2:=b 2
 have b3:=b 3
 have b4:=b 4
 have b5:=b 5
 have b6:=b 6
 have b7:=b 7
 have b8:=b 8
 have b9:=b 9
 have b10:=b 10
 have b11:=b 11
 have b12:=b 12
 have b13:=b 13
 have b14:=b 14
 have b15:=b 15
 constructor
 ·rintro⟨p,q⟩ s hs
  have r:8192 * (g 2+g 3+g 4+g 5+g 6+g 7+g 8+g 9+g 10+g 11+g 12+g 13+g 14+g 15)≤0:=by omega
  have hz:∀ t,t < 16→t≠1→g t=0:=by
   intro t ht h1
   rcases (show t=0∨t=2∨t=3∨t=4∨t=5∨t=6∨t=7∨t=8∨t=9∨t=10∨t=11∨t=12∨t=13∨t=14∨t=15 by omega) with rfl | rfl | rfl | rfl | rfl | rfl | rfl | rfl | rfl | rfl | rfl | rfl | rfl | rfl | rfl <;> omega
  unfold one1
  by_cases h1:s=1
  ·subst h1
   rw[if_pos rfl]
   omega
  ·rw[if_neg h1,hz s hs h1]
 ·intro e
  have c:=fun s (hs:s < 16)=>e s hs
  rw[c 0 (by omega),c 1 (by omega),c 2 (by omega),c 3 (by omega),c 4 (by omega),c 5 (by omega),c 6 (by omega),c 7 (by omega),c 8 (by omega),c 9 (by omega),c 10 (by omega),c 11 (by omega),c 12 (by omega),c 13 (by omega),c 14 (by omega),c 15 (by omega)]
  decide +kernel
end CodeMath
end
section
namespace CodeMath
open OutMath
def first (g:Nat→Int):Nat→Int
 | 0=>0
 | 1=>0
 | s+2=>2 * (first g (s+1)+g (s+1))
theorem first_nx (f:Nat→Int) (n:Nat):∀ s,1≤s→first (cs f n) s=2 * nx f n (s - 1)
 | 0,h=>by omega
 | 1,_=>rfl
 | s+2,_=>by
  show 2 * (first (cs f n) (s+1)+cs f n (s+1))=2 * nx f n (s+1)
  rw[first_nx f n (s+1) (by omega)]
  show 2 * (2 * nx f n s+cs f n (s+1))=2 * (2 * nx f n s+cntS f ((s+1:Nat):Int) n)
  unfold cs
  rw[if_neg (by omega)]
theorem first_step (g:Nat→Int) (t:Nat) (h:2≤t):first g t=2 * (first g (t - 1)+g (t - 1)):=by
 obtain⟨s,rfl⟩:∃ s,t=s+2:=⟨t - 2,by omega⟩
 rfl
theorem first_bd (g:Nat→Int) (hg:∀ s,0≤g s∧g s≤288):∀ s,0≤first g s∧first g s+576≤576 * p2 s
 | 0=>by rw [p2_zero]; exact⟨Int.le_refl _,by show (0:Int)+576≤_; omega⟩
 | 1=>by
  have e:p2 1=2:=by decide +kernel
  rw[e]
  exact⟨Int.le_refl _,by show (0:Int)+576≤_; omega⟩
 | s+2=>by
  have ih:=first_bd g hg (s+1)
  have h:=hg (s+1)
  show 0≤2 * (first g (s+1)+g (s+1))∧2 * (first g (s+1)+g (s+1))+576≤_
  rw[p2_succ]
  omega
theorem first_lt (g:Nat→Int) (hg:∀ s,0≤g s∧g s≤288) (s:Nat) (hs:s≤15):0≤first g s∧first g s≤18874368:=by
 have h:=first_bd g hg s
 have h2:=p2_le hs
 have e:p2 15=32768:=by decide +kernel
 omega
def firstTo (g:Nat→Int) (t:Nat):Nat→Int:=fun s=>if s < t then first g s else 0
theorem firstTo_start (g:Nat→Int) (s:Nat):firstTo g 2 s=0:=by
 unfold firstTo
 split
 ·rename_i h
  rcases (show s=0∨s=1 by omega) with rfl | rfl <;> rfl
 ·rfl
def nextAt (f:Nat→Int) (n i:Nat):Nat→Int:=fun s=>if s=0 then 0 else 2 * nx f n (s - 1)+cntS f s i
theorem nextAt_start (f:Nat→Int) (n s:Nat):first (cs f n) s=nextAt f n 0 s:=by
 unfold nextAt
 by_cases h:s=0
 ·subst h; rfl
 ·rw[if_neg h,first_nx f n s (by omega)]
  show _=_+0
  omega
theorem nextAt_bd (f:Nat→Int) (n:Nat) (hn:n≤288) (i:Nat) (hi:i≤n) (s:Nat) (hs:s≤15):0≤nextAt f n i s∧nextAt f n i s≤20000000:=by
 unfold nextAt
 split
 ·omega
 ·have h:=nx_lt f n hn (s - 1) (by omega)
  have c:=cntS_bd f s i
  omega
theorem nextAt_code (f:Nat→Int) (n i s:Nat) (hs:1≤s) (e:f i=(s:Int)):nextAt f n i s=codeOf f n i:=by
 unfold nextAt codeOf
 rw[if_neg (by omega),if_neg (by omega),e,Int.toNat_natCast]
def wrote (f:Nat→Int) (n i:Nat):Nat→Int:=fun j=>if j < i then codeOf f n j else 0
end CodeMath
end
end Go.Proofs.YtklpiihnbokkkaaGreatDoor
