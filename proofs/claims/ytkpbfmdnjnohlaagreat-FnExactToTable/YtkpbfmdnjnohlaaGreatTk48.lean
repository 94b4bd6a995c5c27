/-
  Texts of the proof, put together.
-/
import Derived.Test.YtkpbfmdnjnohlaaGreatTk19
namespace Go.Proofs.YtkpbfmdnjnohlaaGreat
open Go.RowKit Go.Maps Go.WideMaps
open Go.ChangeMaps (setBlock heap_setBlock_same heap_setBlock_other)
def kq (q:Q4):Value:=.agg #[.int .i64 q.1,.int .i64 q.2.1,.int .i64 q.2.2.1,.int .i64 q.2.2.2]
theorem arrP:ArrKey Tryz.prog 104 3 4:=⟨Tryz.underlying104,by kernel_rfl,by kernel_rfl,by kernel_rfl⟩
theorem some_typesP:∃ m,Tryz.prog.types.size=m+1:=by
 have h:decide (0 < Tryz.prog.types.size)=true:=by kernel_rfl
 have:=of_decide_eq_true h
 exact⟨Tryz.prog.types.size - 1,by omega⟩
theorem keyP:Keyed Tryz.prog 104:=Keyed.of_law arrP.law
theorem keyOf_px {q:Q4} (h:QOk q):∃ l,keyOf Tryz.prog 104 (kq q)=some l:=by
 have hkt:=arrP.keyType some_typesP
 obtain⟨m,hm⟩:=some_typesP
 obtain⟨x,y,z,t⟩:=q
 have wf:∀ v:Int,(0≤v∧v≤65535)→(Lit.int .i64 v).wf=true:=fun v hv=>by
  simp[Lit.wf,IntKind.min,IntKind.max,IntKind.signed,IntKind.bits]
  omega
 have wx:=wf x h.1
 have wy:=wf y h.2.1
 have wz:=wf z h.2.2.1
 have wt:=wf t h.2.2.2
 refine⟨.string (keyBytes [.int .i64 x,.int .i64 y,.int .i64 z,.int .i64 t]),?_⟩
 unfold keyOf kq
 simp only [arrP.hu]
 rw[if_pos (by simp [hkt,Value.formed,arrP.hu,arrP.size]),hm]
 unfold Program.keyLits
 simp only [arrP.hu,Value.cells]
 rw[if_pos (by rw [arrP.size]; rfl),show List.range 4=[0,1,2,3] from rfl,List.mapM_cons,List.mapM_cons,List.mapM_cons,List.mapM_cons,List.mapM_nil]
 simp[arrP.one,Program.keyLits,Tryz.underlying3,wx,wy,wz,wt]
theorem kq_inj {q r:Q4} (h:kq q=kq r):q=r:=by
 obtain⟨x,y,z,t⟩:=q
 obtain⟨x',y',z',t'⟩:=r
 simp only [kq,Value.agg.injEq,Array.mk.injEq,List.cons.injEq,Value.int.injEq,and_true,true_and] at h
 rw[h.1,h.2.1,h.2.2.1,h.2.2.2]
def PM (w:World) (M:Nat) (D:List Q4):Prop:=
 ∃ es clock,w.heap[M]?=some (.map es clock)∧es.toList.length=D.length∧∀ (i:Nat) (e:MapEntry),es.toList[i]?=some e→∃ q,D[i]?=some q∧QOk q∧e.key=kq q∧e.val=.int .i64 (i:Int)
theorem PM.lt {w:World} {M:Nat} {D:List Q4} (h:PM w M D):M < w.heap.size:=by
 obtain⟨es,clock,h1,_⟩:=h
 exact block_lt h1
theorem PM.keep {w w':World} {M:Nat} {D:List Q4} (h:PM w M D) (hk:w'.heap[M]?=w.heap[M]?):PM w' M D:=by
 obtain⟨es,clock,h1,h2⟩:=h
 exact⟨es,clock,hk.trans h1,h2⟩
theorem PM.called {w w':World} {M:Nat} {D:List Q4} (h:PM w M D) (hb:Below w.heap.size w w'):PM w' M D:=h.keep (hb.block M h.lt)
theorem PM.made (w:World):PM (w.alloc (.map #[] 0)) w.heap.size []:=⟨#[],0,heap_alloc_new w _,rfl,fun i e h=>by simp at h⟩
theorem PM.keys {es:Array MapEntry} {D:List Q4} (h:∀ (i:Nat) (e:MapEntry),es.toList[i]?=some e→∃ q,D[i]?=some q∧QOk q∧e.key=kq q∧e.val=.int .i64 (i:Int)):∀ e∈es.toList,∃ l,keyOf Tryz.prog 104 e.key=some l:=fun e he=>by
 obtain⟨i,hi⟩:=List.mem_iff_getElem?.mp he
 obtain⟨q,_,hq,hk,_⟩:=h i e hi
 rw[hk]
 exact keyOf_px hq
theorem PM.look_in {w:World} {M:Nat} {D:List Q4} {q:Q4} (h:PM w M D) (hq:QOk q) (hD:D.Nodup) (hm:q∈D):(Instr.lookup 102 (.map (some M)) (kq q) true).run Tryz.prog w=.ok (.tuple #[.int .i64 (D.idxOf q:Int),.bool true]) w:=by
 obtain⟨es,clock,h1,h2,h3⟩:=h
 obtain⟨kl,hkey⟩:=keyOf_px hq
 rcases keyP.find w hkey es.toList (PM.keys h3) with ⟨f1,f2⟩ | ⟨j,e0,f1,f2,f3⟩
 ·exfalso
  obtain⟨i,hi⟩:=List.mem_iff_getElem?.mp hm
  have hil:i < es.toList.length:=by rw [h2]; exact (List.getElem?_eq_some_iff.1 hi).1
  obtain⟨q',k1,_,k3,_⟩:=h3 i _ (List.getElem?_eq_getElem hil)
  rw[hi] at k1
  cases k1
  exact f2 _ (List.getElem_mem hil) k3
 ·obtain⟨q',k1,_,k3,k4⟩:=h3 j e0 f2
  obtain rfl:=kq_inj (f3.symm.trans k3)
  have hj:j < D.length:=(List.getElem?_eq_some_iff.1 k1).1
  have hlt:=List.idxOf_lt_length_iff.mpr hm
  have hget:D[D.idxOf q]'hlt=q:=List.getElem_idxOf hlt
  have hjq:D[j]'hj=q:=(List.getElem?_eq_some_iff.1 k1).2
  have e:j=D.idxOf q:=by
   have hp:=List.pairwise_iff_getElem.mp hD
   rcases Nat.lt_trichotomy j (D.idxOf q) with h1 | h1 | h1
   ·exact absurd (hjq.trans hget.symm) (hp j (D.idxOf q) hj hlt h1)
   ·exact h1
   ·exact absurd (hget.trans hjq.symm) (hp (D.idxOf q) j hlt hj h1)
  rw[← e,← k4]
  simp[Instr.lookup,run_underlying Tryz.underlying102,MapKept.run_getObj_map h1,keyP.check w _ hkey,f1,Result.andThen]
theorem zero_intP (w:World):(zeroValue 3).run Tryz.prog w=.ok (.int .i64 0) w:=by kernel_rfl
theorem PM.look_out {w:World} {M:Nat} {D:List Q4} {q:Q4} (h:PM w M D) (hq:QOk q) (hm:q ∉ D):(Instr.lookup 102 (.map (some M)) (kq q) true).run Tryz.prog w=.ok (.tuple #[.int .i64 0,.bool false]) w:=by
 obtain⟨es,clock,h1,h2,h3⟩:=h
 obtain⟨kl,hkey⟩:=keyOf_px hq
 rcases keyP.find w hkey es.toList (PM.keys h3) with ⟨f1,f2⟩ | ⟨j,e0,f1,f2,f3⟩
 ·have hz:=zero_intP w
  simp[Instr.lookup,run_underlying Tryz.underlying102,MapKept.run_getObj_map h1,keyP.check w _ hkey,f1,Result.andThen,hz]
 ·exfalso
  obtain⟨q',k1,_,k3,_⟩:=h3 j e0 f2
  obtain rfl:=kq_inj (f3.symm.trans k3)
  exact hm (List.mem_of_getElem? k1)
theorem PM.store {w:World} {M:Nat} {D:List Q4} {q:Q4} (h:PM w M D) (hq:QOk q) (hm:q ∉ D):∃ w2,(Instr.mapUpdate 102 (.map (some M)) (kq q) (.int .i64 (D.length:Int))).run Tryz.prog w=.ok () w2∧PM w2 M (D ++ [q])∧w.grownBy w2 (some M):=by
 obtain⟨es,clock,h1,h2,h3⟩:=h
 obtain⟨kl,hkey⟩:=keyOf_px hq
 have hg:∀ o,w.grownBy (setBlock w M o) (some M):=fun o=>⟨rfl,rfl,rfl,by simp [setBlock],fun i _ hi=>heap_setBlock_other h1 _ (fun e1=>hi (by rw [e1]))⟩
 rcases keyP.find w hkey es.toList (PM.keys h3) with ⟨f1,f2⟩ | ⟨j,e0,f1,f2,f3⟩
 ·refine⟨setBlock w M (.map (es.push ⟨kq q,.int .i64 (D.length:Int),clock⟩) (clock+1)),?_,⟨_,_,heap_setBlock_same h1 _,by rw [Array.toList_push,List.length_append,List.length_append,h2]; rfl,fun i e hi=>?_⟩,hg _⟩
  ·simp[Instr.mapUpdate,run_underlying Tryz.underlying102,MapKept.run_getObj_map h1,keyP.check w false hkey,f1,MapKept.run_setObj_map _ h1,Result.andThen,setBlock]
  ·rw[Array.toList_push] at hi
   rcases Nat.lt_or_ge i es.toList.length with hl | hl
   ·rw[List.getElem?_append_left hl] at hi
    obtain⟨q',k1,k2⟩:=h3 i e hi
    exact⟨q',by rw [List.getElem?_append_left (by omega)]; exact k1,k2⟩
   ·rw[List.getElem?_append_right hl] at hi
    have hi0:i - es.toList.length=0:=by
     rcases Nat.eq_zero_or_pos (i - es.toList.length) with h0 | h0
     ·exact h0
     ·rw[List.getElem?_eq_none (by show 1≤_; omega)] at hi
      cases hi
    rw[hi0] at hi
    simp only [List.getElem?_cons_zero,Option.some.injEq] at hi
    subst hi
    have hid:i=D.length:=by omega
    exact⟨q,by rw [List.getElem?_append_right (by omega),show i - D.length=0 by omega]; rfl,hq,rfl,by rw [hid]⟩
 ·exfalso
  obtain⟨q',k1,_,k3,_⟩:=h3 j e0 f2
  obtain rfl:=kq_inj (f3.symm.trans k3)
  exact hm (List.mem_of_getElem? k1)
end Go.Proofs.YtkpbfmdnjnohlaaGreat
