/-
  Texts of the proof, put together.
-/
import Derived.Test.YtkpbfmdnjnohlaaGreatCk14
import Derived.Test.YtkpbfmdnjnohlaaGreatCk31
import Derived.Test.YtkpbfmdnjnohlaaGreatCk32
import Derived.Test.YtkpbfmdnjnohlaaGreatCk33
namespace Go.Proofs.YtkpbfmdnjnohlaaGreat
open Go.RowKit Go.Joins Go.Shelf OutMath PutMath RastMath HeadMath
attribute [local go_sem] Oper.semAt_some
theorem own_kept {V V':World} {Bs n:Nat} {v:Value} {L:List Value} (h:V.ownsRow Bs 3 1 v n L) (hk:∀ (b:Nat) (cs:Array Value) (fz:Nat×Nat),Bs≤b→V.heap[b]?=some (.cells cs 3 fz)→V'.heap[b]?=V.heap[b]?):V'.ownsRow Bs 3 1 v n L:=by
 refine⟨h.1,?_⟩
 rcases h.2 with h | ⟨g,cap,cur,e,q1,q2,q3⟩
 ·exact .inl h
 ·exact .inr ⟨g,cap,cur,e,q1,(hk g _ _ q1 q2).trans q2,q3⟩
theorem info_int18:(Tryz.prog.info? 3).map (fun i=>(i.zero,i.size,i.bytes))=some (some (.int .i64 0),1,8):=by kernel_rfl
theorem step_append_run {o:Oper} {a:Act} {w w':World} {K:Act→World→Prop} {Q:Exit→Act→World→Prop} {v':Value} (s x:Operand) (t:TypeId) (ho:o.op=.call { callee:=.builtin .append,args:=#[s,x],argTypes:=#[t,t] }) (v u:Value) (hs:a.eval s=v) (hx:a.eval x=u) (hr:(Builtin.append_ #[t,t] o.type #[v,u]).run Tryz.prog w=.ok v' w') (h:K (a.put o.dst v') w'):Oper.wp Tryz.prog o a w K Q:=by
 unfold Oper.wp execOp
 simp only [ho,resolve,invoke,builtin,Sem.run_bind,Sem.run_pure,Result.andThen_ok,List.map_toArray,List.map_cons,List.map_nil,hs,hx,hr]
 exact h
end Go.Proofs.YtkpbfmdnjnohlaaGreat
