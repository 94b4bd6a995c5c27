/-
  Texts of the proof, put together.
-/
import Derived.Test.YtkpbfmdnjnohlaaGreatCk13
namespace Go.Proofs.YtkpbfmdnjnohlaaGreat
section
open Go.RowKit Go.Shelf
attribute [local go_sem] Oper.semAt_some
set_option maxRecDepth 100000 in
set_option maxHeartbeats 2000000 in
theorem chunkE_tells (Bs Bn g off n m cap:Nat) (hn:1≤n) (hn4:n≤4) (hm:m≤1024) (hcap:n * m≤cap) (W:World) (hBs:W.cell? ⟨Bs,0,none⟩=some (.slice (some ⟨g,off,none⟩) (n * m) cap)) (hBn:W.cell? ⟨Bn,0,none⟩=some (.int .i64 (n:Int))):
  TellsEarly 107 #[.pointer (some ⟨Bs,0,none⟩),.pointer (some ⟨Bn,0,none⟩)] (chunkI g off n) m (BothI Bs Bn) W:=by
 intro l J Jx V hWV hJd hXd hY h0
 have HY:=hid_of hY
 have HJD:=hid_of hJd
 have HWV:=hid_of hWV
 have hnm:n * m≤4096:=by
  have:=Nat.mul_le_mul hn4 hm
  omega
 obtain⟨L,hL⟩:∃ L,L=n * m:=⟨_,rfl⟩
 rw[← hL] at hBs hcap hnm
 have HL:=hid_of hL
 clear hY hJd hWV hL
 refine callsIn_of_wp Tryz.func107 rfl trivial ?_ rfl
 simp only [Tryz.ntmps107,List.size_toArray,List.length_cons,List.length_nil,Nat.reduceAdd,Nat.reduceSub,Array.replicate_succ,Array.replicate_zero,List.push_toArray,List.append_toArray,List.nil_append,List.cons_append]
 gi_wp2
 gi_loopw [4] (fun i wr=>∃ k a:Nat,k≤m∧Hid (a=n * k)∧i=.int .i64 (a:Int)∧Hid (J k wr∧BothI Bs Bn W wr))
  (fun i _=>(L+60 - intOf i).toNat)
 case atStart=>exact⟨0,0,Nat.zero_le _,(Nat.mul_zero n).symm,rfl,h0,HWV.out⟩
 case round=>
  obtain⟨k,a,hk,ha,rfl,hS⟩:=hrel
  have c1:wr.cell? ⟨Bs,0,none⟩=some (.slice (some ⟨g,off,none⟩) L cap):=(heap_cell hS.out.2.1 0).trans hBs
  have c2:wr.cell? ⟨Bn,0,none⟩=some (.int .i64 (n:Int)):=(heap_cell hS.out.2.2 0).trans hBn
  by_cases hlt:k < m
  ·have hle:a+n≤L:=by
    have h1:=ha.out
    have h2:=HL.out
    have h3:=Nat.mul_le_mul_left n (show k+1≤m from hlt)
    rw[Nat.mul_succ] at h3
    omega
   have d1:decide ((a:Int) < (L:Int))=true:=decide_eq_true (by omega)
   have h1:(0:Int)≤(a:Int):=by omega
   have h2:(a:Int)≤(L:Int):=by omega
   have h3:(a:Int)≤(cap:Int):=by omega
   have q2:decide (((L - a:Nat):Int) < (n:Int))=false:=decide_eq_false (by omega)
   have q1:¬ ((L - a:Nat):Int) < (n:Int):=by omega
   have q3:min (n:Int) ((L - a:Nat):Int)=(n:Int):=by omega
   have q4:IntKind.i64.wrap ((a:Int)+(n:Int))=((a+n:Nat):Int):=by rw [IntKind.wrap_i64]; omega
   have h4:(a:Int)≤((a+n:Nat):Int):=by omega
   have h5:((a+n:Nat):Int)≤(cap:Int):=by omega
   have h6:(0:Int)≤((a+n:Nat):Int):=by omega
   gi_wp2
   gi_region
   all_goals
    obtain⟨fn,tmps,assign,body,hy,hR⟩:=HY.out k wr.drew (by omega) (HJD.out k wr 1 hS.out.1)
    rw[show chunkI g off n k=#[.slice (some ⟨g,off+a,none⟩) n n] from by
     unfold chunkI
     rw[← ha.out]] at hy
    gi_wp2
    refine hR.mono ?_
    rintro e W3 (⟨rfl,hJ3,hk3⟩ | ⟨rfl,hE⟩)
    rotate_left
    ·have HEE:=hid_of hE
     clear hE
     gi_wp2
     refine bodyPost_ret (results_none rfl _ _ _) rfl ?_
     exact⟨⟨_,rfl⟩,.inr HEE.out⟩
    have c4:W3.cell? ⟨Bn,0,none⟩=some (.int .i64 (n:Int)):=(heap_cell hk3.2 0).trans c2
    have H3:Hid (J (k+1) W3∧BothI Bs Bn W W3):=⟨hJ3,hk3.1.trans hS.out.2.1,hk3.2.trans hS.out.2.2⟩
    have HA:Hid (a+n=n * (k+1)):=by
     show _=_
     rw[Nat.mul_succ,← ha.out]
    clear hJ3 hk3
    gi_wp2
    go_roundw
    case rel=>exact⟨k+1,a+n,by omega,HA,by go_num,H3⟩
    case measure=>simp [intOf]; omega
  ·have hkm:k=m:=by omega
   have haL:¬ a < L:=by have h1:=ha.out; have h2:=HL.out; rw [hkm] at h1; omega
   have d1:decide ((a:Int) < (L:Int))=false:=decide_eq_false (by omega)
   have d2:decide (a < L)=false:=decide_eq_false haL
   have HKM:=hid_of hkm
   clear hkm haL hlt
   gi_wp2
   go_end0
   exact⟨⟨_,rfl⟩,.inl (HKM.out ▸ hS.out.1)⟩
where
 heap_cell {W W':World} {g:Nat} (h:W'.heap[g]?=W.heap[g]?) (j:Nat):W'.cell? ⟨g,j,none⟩=W.cell? ⟨g,j,none⟩:=by
  unfold World.cell?
  rw[h]
end
section
open Go.RowKit
theorem oper_round {l n:Nat} {o:Oper} {a:Act} {w:World} {K:Act→World→Prop} {Q:Exit→Act→World→Prop} (hd:∀ c,o.op≠.defer c) (h:o.wp Tryz.prog a w K Q):o.wpIn (Fence.wide.inRound l) n Tryz.prog a w K Q:=by
 refine⟨fun _ _=>trivial,?_⟩
 rw[Oper.semAt_plain _ _ _ hd]
 unfold Oper.wp at h
 generalize (execOp a.eval o).run Tryz.prog w=r at h ⊢
 cases r with
 | ok x w'=>
  cases x with
  | value v=>exact h
  | skip=>exact h
  | defer d=>exact h
  | enter f args=>exact⟨(fun q=>by cases q),CallsIn.inRound l (callsIn_wide.2 h)⟩
  | row row args=>
   refine⟨(fun q=>by cases q),fun c cs _=>?_⟩
   obtain⟨v,w'',h1,h2⟩:=h c cs
   exact⟨v,w'',h1,stepsIn_wide.2 h2⟩
  | _=>exact (h:False).elim
 | halt x w'=>cases x <;> exact h
theorem any_round {l n:Nat} {ops:Array Oper} {Q:Exit→Act→World→Prop} (hd:∀ o∈ops.toList,∀ c,o.op≠.defer c) (hQ:¬ LetsOut Q):∀ (fuel:Nat) (listed:Array Bool) (a:Act) (w:World),wpAny Tryz.prog .any ops Q fuel listed a w→wpAnyIn (Fence.wide.inRound l) n Tryz.prog .any ops Q fuel listed a w
 | 0,_,_,_,h=>h
 | fuel+1,listed,a,w,h=>by
  refine⟨h.1,fun i hi=>?_⟩
  have h2:=h.2 i hi
  unfold wpOp at h2
  unfold wpOpIn
  cases ho:ops[i]? with
  | none=>
   rw[ho] at h2
   exact any_round hd hQ fuel _ _ _ h2
  | some o=>
   rw[ho] at h2
   have hm:o∈ops.toList:=by
    rw[Array.mem_toList_iff]
    exact Array.mem_of_getElem? ho
   simp only [] at h2 ⊢
   split
   ·rename_i hw
    rw[if_pos hw] at h2
    rcases h2 with h3 | h3
    ·exact Oper.wpIn_mono (fun a w=>any_round hd hQ fuel _ a w) (oper_round (hd o hm) h3)
    ·exact (hQ h3.2).elim
   ·rename_i hw
    rw[if_neg hw] at h2
    exact⟨fun _ _=>trivial,any_round hd hQ fuel _ _ _ h2⟩
theorem region_round {l n id:Nat} {ops:Array Oper} {Q:Exit→Act→World→Prop} {a:Act} {w:World} {S:World→Prop} (hd:∀ o∈ops.toList,∀ c,o.op≠.defer c) (hQ:¬ LetsOut Q)
  (h:wpAnyH Tryz.prog .any ops Q S ops.size (Array.replicate ops.size false) a w.drew):(Code.region id ops true).wpIn (Fence.wide.inRound l) n Tryz.prog Q a w:=
 wpIn_region_any (by kernel_rfl) (any_round hd hQ _ _ _ _ (wpAny_of_held _ _ _ _ h))
end
end Go.Proofs.YtkpbfmdnjnohlaaGreat
