/-
  Proved here: at every raster the program's PassesOf answers as the document's model does, every field; it writes into no argument, and its answer owns its memory; the program's table of the passes' grids is as its own text lays it (the card ties it).
-/
import Derived.Test.YtcbbcadfolgioaaDoorCards
import Derived.Test.YtcbbcadfolgioaaDoorTie
import Derived.Test.YtcbbcadfolgioaaDoorPc09
import Derived.Test.YtcbbcadfolgioaaDoorPc13
import Derived.OpenVars
import Derived.Deep.DeepHandedRow
namespace Go.Proofs.YtcbbcadfolgioaaDoor
open Go.ChangeShapes Go.WideShapes Go.ChangeAt Go.RowKit Go.Joins PassMath
open Go.ChangeMaps (open_string shut_string)
theorem own_knob:ownKnob Tryd.prog.godebug=none:=by kernel_rfl
set_option maxRecDepth 100000 in
theorem fnExactPassesOf_contract (H:Type) (enc:TypeId×Value→H) (W:World) (base:Nat) (args:Array Value) (ds gs:List (DataW H)) (before:List MemPlace)
  (hval:∀ (j:Nat) t v,Tryd.f5.params[j]?=some t→args[j]?=some v→Value.okWide Tryd.prog W .any base t v)
  (hW:DataW.Whole enc Tryd.prog Tryd.f5.params.toList Rows.fnExactPassesOfSpec.vars false W args.toList ds gs before) (hL:laidMetH Tryd.prog Rows.fnExactPassesOfRow.laid W):
  Calls Tryd.prog 5 args W fun e W'=>∃ v,e=.returned v∧Rows.fnExactPassesOfSpec.post enc Tryd.prog Tryd.f5 false true false false W args v W':=by
 have hW':=hW
 obtain⟨p,q,hA0,hV,rfl,hfz,hnd⟩:=hW
 have hA:DataW.TrodAll enc Tryd.prog W 0 (fun _=>true) true Tryd.f5.params.toList args.toList ds p:=hA0
 rw[Tryd.params5] at hA hval
 obtain⟨v0,vs0,d0,ds0,p0,q0,hargs,rfl,rfl,h0,r0⟩:=trodAll_cons hA
 obtain⟨rfl,rfl,rfl⟩:=trodAll_nil r0
 obtain rfl:args=#[v0]:=by cases args; simp_all
 have k0:=h0
 have lt0:∀ x∈p0,x.block < W.heap.size:=by obtain⟨m,hm⟩:=k0; exact DataW.trod_lt m _ _ _ hm
 obtain⟨a0_0,a0_1,a0_2,a0_3,a0,len0,cap0,z0,rfl,f0_0,f0_1,f0_2,f0_3,f0⟩:=open_raster (hval 0 41 v0 rfl rfl) h0
 have hgs:∃ g,gs=[g]:=by
  obtain⟨_,_,_,_,d,_,e,_⟩:=trodVars_one hV
  exact⟨d,e⟩
 obtain⟨gd,rfl⟩:=hgs
 clear hA0
 refine (FnExactPassesOf_over passes_answer a0_0 a0_1 a0_2 a0_3 a0 len0 cap0 z0 W f0_0 f0_1 f0_2 f0_3 f0 (grid_laid (rest:=[]) hL)).mono fun e W' ⟨he,bel⟩=>?_
 subst he
 exact⟨_,rfl,_,_,_,[],_,_,hW',trodAll_mk1 (shut_bool Tryd.underlying4 _),(trodAll_cons_mk (Below.trod (of_laid) (by kernel_rfl) (of_decide_eq_true (by kernel_rfl)) k0 bel lt0) trodAll_mk0),Below.trodVars (of_laid) bel (by kernel_rfl) hV,bel.frame _,fun h=>by cases h⟩
def layTable (w : World) : World :=
  { w with heap := w.heap.modify 0 fun
      | .cells _ t frozen => .cells #[.int .i64 0, .int .i64 0, .int .i64 8, .int .i64 8, .int .i64 4, .int .i64 0, .int .i64 8, .int .i64 8, .int .i64 0, .int .i64 4, .int .i64 4, .int .i64 8, .int .i64 2, .int .i64 0, .int .i64 4, .int .i64 4, .int .i64 0, .int .i64 2, .int .i64 2, .int .i64 4, .int .i64 1, .int .i64 0, .int .i64 2, .int .i64 2, .int .i64 0, .int .i64 1, .int .i64 1, .int .i64 2] t frozen
      | o => o }
theorem laid_met (os:Os):laidMet Tryd.prog Rows.fnExactPassesOfRow.laid ((layTable (World.holding Tryd.prog os ⟨#[],#[],[]⟩)).forCall (fun _ _=>0) ⟨#[],#[.agg #[.int .i64 0,.int .i64 0,.int .i64 0,.int .i64 0,.slice none 0 0]],[]⟩).memory:=
 laidMet_of_run' 8 (by kernel_rfl) (by kernel_rfl)
theorem reads (os:Os) {H:Type} (enc:TypeId×Value→H):∃ places,DataW.whole enc Tryd.prog ((layTable (World.holding Tryd.prog os ⟨#[],#[],[]⟩)).forCall (fun _ _=>0) ⟨#[],#[.agg #[.int .i64 0,.int .i64 0,.int .i64 0,.int .i64 0,.slice none 0 0]],[]⟩).memory Tryd.f5.params.toList Rows.fnExactPassesOfSpec.vars false #[Value.agg #[.int .i64 0,.int .i64 0,.int .i64 0,.int .i64 0,.slice none 0 0]].toList 8=some ([.agg [.lit (.int .i64 0),.lit (.int .i64 0),.lit (.int .i64 0),.lit (.int .i64 0),.nil]],[Rows.laid_loop_example_g00099_impl_passGrids],places):=
 ⟨MemPlace.row ⟨0,0,none⟩ 28,by kernel_rfl⟩
set_option maxRecDepth 100000 in
theorem FnExactPassesOf_lifted (os:Os) (started:os.Started) (H:Type) (enc:TypeId×Value→H) (F:Stop.Interp):
  ReturnsInHanded {} Tryd.checked os 5 .any ((OpenSpec.ofChange Rows.fnExactPassesOfSpec).preRow enc Tryd.prog Tryd.f5 Rows.fnExactPassesOfRow.domain false Rows.fnExactPassesOfRow.laid) (((OpenSpec.ofChange Rows.fnExactPassesOfSpec).at F).post enc Tryd.prog Tryd.f5 false true false false):=by
 obtain⟨places,hx⟩:=reads os enc
 refine returnsInHanded_of_row (C:=Tryd.checked) (s:=OpenSpec.ofChange Rows.fnExactPassesOfSpec) own_knob started (by kernel_rfl) Tryd.func5
  (witness_row_at (enc:=enc) (C:=Tryd.checked) false (layTable (World.holding Tryd.prog os ⟨#[],#[],[]⟩)) #[.agg #[.int .i64 0,.int .i64 0,.int .i64 0,.int .i64 0,.slice none 0 0]] rfl (by kernel_rfl) (by kernel_rfl) (by kernel_rfl)
   (OpenSpec.preRow_of_cond 8 hx (by kernel_rfl) (fun k hk=>by cases hk) (by kernel_rfl) (laid_met os))) ?_
 intro W base args ds gs before hval hW _ _ _ hL _ _
 exact fnExactPassesOf_contract H enc W base args ds gs before hval hW hL
theorem FnExactPassesOf_said:Rows.FnExactPassesOfSaid:=
 OpenClaim.holds_of_cond 5 Tryd.f5 rfl rfl rfl rfl rfl rfl rfl ⟨rfl,rfl,rfl,rfl,rfl⟩ rfl rfl rfl rfl rfl (by kernel_rfl) Tryd.func5 (by kernel_rfl)
  (of_decide_eq_true (by kernel_rfl)) (by unfold Func.isWrapper; first | (rw [if_pos (by decide +kernel)]; kernel_rfl) | (rw [if_neg (by decide +kernel)]; exact⟨rfl,rfl⟩))
  (fun os started H enc _ F=>by rw [OpenClaim.pre_eq_preRow]; exact FnExactPassesOf_lifted os started H enc F)
theorem fnExactPassesOf_plain (f : FuncId) (fn : Func) (hf : Tryd.pinned.checked.prog.funcNamed "loop.example/g00099/laws.FnExactPassesOf" = some f) (hfn : Tryd.pinned.checked.prog.funcs[f]? = some fn) :
  false=Tryd.pinned.checked.prog.looks []∧∀ (j:Nat) t,fn.params[j]?=some t→Tryd.pinned.checked.prog.wantsStandIn t=false:=by
 obtain rfl : f = 5 := Option.some.inj ((show Tryd.prog.funcNamed "loop.example/g00099/laws.FnExactPassesOf" = some 5 by kernel_rfl).symm.trans hf) |>.symm
 obtain rfl:fn=Tryd.f5:=(Option.some.inj (Tryd.func5.symm.trans hfn)).symm
 refine⟨by kernel_rfl,fun j t ht=>?_⟩
 rw[Tryd.params5] at ht
 have hm:t=41:=by simpa using Array.mem_of_getElem? ht
 subst hm
 exact (show Tryd.prog.wantsStandIn 41=false by kernel_rfl)
theorem FnExactPassesOf_holds:Rows.FnExactPassesOfCardSaid:=
 Claim7.holds_tied_plain_at .later [] _ _ _ _ FnExactPassesOf_said (fun _ h=>by cases h) (by kernel_rfl) (fun _ h=>by cases h) fnExactPassesOf_row_tie rfl ⟨rfl,rfl⟩ (by kernel_rfl) rfl fnExactPassesOf_plain (by kernel_rfl)
#print axioms FnExactPassesOf_holds
end Go.Proofs.YtcbbcadfolgioaaDoor
