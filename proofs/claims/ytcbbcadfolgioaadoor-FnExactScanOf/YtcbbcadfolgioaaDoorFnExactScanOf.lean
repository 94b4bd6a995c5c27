/-
  Proved here: at every raster, with passes or without, by every way the program's ScanOf answers as the document's model does, every field; it writes into no argument, and its answer owns its memory; the program's table of the passes' grids is as its own text lays it (the card ties it).
-/
import Derived.Test.YtcbbcadfolgioaaDoorCards
import Derived.Test.YtcbbcadfolgioaaDoorTie
import Derived.Test.YtcbbcadfolgioaaDoorPe27
import Derived.OpenVars
import Derived.Deep.DeepHandedRow
namespace Go.Proofs.YtcbbcadfolgioaaDoor
open Go.ChangeShapes Go.WideShapes Go.ChangeAt Go.RowKit Go.Joins PassMath
open Go.ChangeMaps (open_string shut_string)
theorem own_knob:ownKnob Tryd.prog.godebug=none:=by kernel_rfl
set_option maxRecDepth 100000 in
theorem fnExactScanOf_contract (H:Type) (enc:TypeId×Value→H) (W:World) (base:Nat) (args:Array Value) (ds gs:List (DataW H)) (before:List MemPlace)
  (hval:∀ (j:Nat) t v,Tryd.f7.params[j]?=some t→args[j]?=some v→Value.okWide Tryd.prog W .any base t v)
  (hW:DataW.Whole enc Tryd.prog Tryd.f7.params.toList Rows.fnExactScanOfSpec.vars false W args.toList ds gs before) (hL:laidMetH Tryd.prog Rows.fnExactScanOfRow.laid W):
  Calls Tryd.prog 7 args W fun e W'=>∃ v,e=.returned v∧Rows.fnExactScanOfSpec.post enc Tryd.prog Tryd.f7 false true false false W args v W':=by
 have hW':=hW
 obtain⟨p,q,hA0,hV,rfl,hfz,hnd⟩:=hW
 have hA:DataW.TrodAll enc Tryd.prog W 0 (fun _=>true) true Tryd.f7.params.toList args.toList ds p:=hA0
 rw[Tryd.params7] at hA hval
 obtain⟨v0,vs0,d0,ds0,p0,q0,hargs,rfl,rfl,h0,r0⟩:=trodAll_cons hA
 obtain⟨v1,vs1,d1,ds1,p1,q1,rfl,rfl,rfl,h1,r1⟩:=trodAll_cons r0
 obtain⟨v2,vs2,d2,ds2,p2,q2,rfl,rfl,rfl,h2,r2⟩:=trodAll_cons r1
 obtain⟨rfl,rfl,rfl⟩:=trodAll_nil r2
 obtain rfl:args=#[v0,v1,v2]:=by cases args; simp_all
 have k0:=h0
 have lt0:∀ x∈p0,x.block < W.heap.size:=by obtain⟨m,hm⟩:=k0; exact DataW.trod_lt m _ _ _ hm
 have k1:=h1
 have lt1:∀ x∈p1,x.block < W.heap.size:=by obtain⟨m,hm⟩:=k1; exact DataW.trod_lt m _ _ _ hm
 have k2:=h2
 have lt2:∀ x∈p2,x.block < W.heap.size:=by obtain⟨m,hm⟩:=k2; exact DataW.trod_lt m _ _ _ hm
 obtain⟨a0_0,a0_1,a0_2,a0_3,a0,len0,cap0,z0,rfl,f0_0,f0_1,f0_2,f0_3,f0⟩:=open_raster (hval 0 41 v0 rfl rfl) h0
 obtain⟨a1,rfl,rfl,rfl⟩:=open_bool Tryd.underlying4 (hval 1 4 v1 rfl rfl) h1
 obtain⟨a2,rfl,rfl,rfl,f2⟩:=open_int Tryd.underlying3 (hval 2 3 v2 rfl rfl) h2
 have hgs:∃ g,gs=[g]:=by
  obtain⟨_,_,_,_,d,_,e,_⟩:=trodVars_one hV
  exact⟨d,e⟩
 obtain⟨gd,rfl⟩:=hgs
 clear hA0
 refine (FnExactScanOf_over scanOf_answer a0_0 a0_1 a0_2 a0_3 a0 len0 cap0 z0 a1 a2 W f0_0 f0_1 f0_2 f0_3 f0 f2 (grid_laid (rest:=[]) hL)).mono fun e W' ⟨he,bel⟩=>?_
 subst he
 exact⟨_,rfl,_,_,_,[],_,_,hW',trodAll_mk1 (shut_bool Tryd.underlying4 _),(trodAll_cons_mk (Below.trod (of_laid) (by kernel_rfl) (of_decide_eq_true (by kernel_rfl)) k0 bel lt0) (trodAll_cons_mk (Below.trod (of_laid) (by kernel_rfl) (of_decide_eq_true (by kernel_rfl)) k1 bel lt1) (trodAll_cons_mk (Below.trod (of_laid) (by kernel_rfl) (of_decide_eq_true (by kernel_rfl)) k2 bel lt2) trodAll_mk0))),Below.trodVars (of_laid) bel (by kernel_rfl) hV,bel.frame _,fun h=>by cases h⟩
def layTable (w : World) : World :=
  { w with heap := w.heap.modify 0 fun
      | .cells _ t frozen => .cells #[.int .i64 0, .int .i64 0, .int .i64 8, .int .i64 8, .int .i64 4, .int .i64 0, .int .i64 8, .int .i64 8, .int .i64 0, .int .i64 4, .int .i64 4, .int .i64 8, .int .i64 2, .int .i64 0, .int .i64 4, .int .i64 4, .int .i64 0, .int .i64 2, .int .i64 2, .int .i64 4, .int .i64 1, .int .i64 0, .int .i64 2, .int .i64 2, .int .i64 0, .int .i64 1, .int .i64 1, .int .i64 2] t frozen
      | o => o }
theorem laid_met (os:Os):laidMet Tryd.prog Rows.fnExactScanOfRow.laid ((layTable (World.holding Tryd.prog os ⟨#[],#[],[]⟩)).forCall (fun _ _=>0) ⟨#[],#[.agg #[.int .i64 0,.int .i64 0,.int .i64 0,.int .i64 0,.slice none 0 0],.bool false,.int .i64 0],[]⟩).memory:=
 laidMet_of_run' 8 (by kernel_rfl) (by kernel_rfl)
theorem reads (os:Os) {H:Type} (enc:TypeId×Value→H):∃ places,DataW.whole enc Tryd.prog ((layTable (World.holding Tryd.prog os ⟨#[],#[],[]⟩)).forCall (fun _ _=>0) ⟨#[],#[.agg #[.int .i64 0,.int .i64 0,.int .i64 0,.int .i64 0,.slice none 0 0],.bool false,.int .i64 0],[]⟩).memory Tryd.f7.params.toList Rows.fnExactScanOfSpec.vars false #[Value.agg #[.int .i64 0,.int .i64 0,.int .i64 0,.int .i64 0,.slice none 0 0],.bool false,.int .i64 0].toList 8=some ([.agg [.lit (.int .i64 0),.lit (.int .i64 0),.lit (.int .i64 0),.lit (.int .i64 0),.nil],.lit (.bool false),.lit (.int .i64 0)],[Rows.laid_loop_example_g00099_impl_passGrids],places):=
 ⟨MemPlace.row ⟨0,0,none⟩ 28,by kernel_rfl⟩
set_option maxRecDepth 100000 in
theorem FnExactScanOf_lifted (os:Os) (started:os.Started) (H:Type) (enc:TypeId×Value→H) (F:Stop.Interp):
  ReturnsInHanded {} Tryd.checked os 7 .any ((OpenSpec.ofChange Rows.fnExactScanOfSpec).preRow enc Tryd.prog Tryd.f7 Rows.fnExactScanOfRow.domain false Rows.fnExactScanOfRow.laid) (((OpenSpec.ofChange Rows.fnExactScanOfSpec).at F).post enc Tryd.prog Tryd.f7 false true false false):=by
 obtain⟨places,hx⟩:=reads os enc
 refine returnsInHanded_of_row (C:=Tryd.checked) (s:=OpenSpec.ofChange Rows.fnExactScanOfSpec) own_knob started (by kernel_rfl) Tryd.func7
  (witness_row_at (enc:=enc) (C:=Tryd.checked) false (layTable (World.holding Tryd.prog os ⟨#[],#[],[]⟩)) #[.agg #[.int .i64 0,.int .i64 0,.int .i64 0,.int .i64 0,.slice none 0 0],.bool false,.int .i64 0] rfl (by kernel_rfl) (by kernel_rfl) (by kernel_rfl)
   (OpenSpec.preRow_of_cond 8 hx (by kernel_rfl) (fun k hk=>by cases hk) (by kernel_rfl) (laid_met os))) ?_
 intro W base args ds gs before hval hW _ _ _ hL _ _
 exact fnExactScanOf_contract H enc W base args ds gs before hval hW hL
theorem FnExactScanOf_said:Rows.FnExactScanOfSaid:=
 OpenClaim.holds_of_cond 7 Tryd.f7 rfl rfl rfl rfl rfl rfl rfl ⟨rfl,rfl,rfl,rfl,rfl⟩ rfl rfl rfl rfl rfl (by kernel_rfl) Tryd.func7 (by kernel_rfl)
  (of_decide_eq_true (by kernel_rfl)) (by unfold Func.isWrapper; first | (rw [if_pos (by decide +kernel)]; kernel_rfl) | (rw [if_neg (by decide +kernel)]; exact⟨rfl,rfl⟩))
  (fun os started H enc _ F=>by rw [OpenClaim.pre_eq_preRow]; exact FnExactScanOf_lifted os started H enc F)
theorem fnExactScanOf_plain (f : FuncId) (fn : Func) (hf : Tryd.pinned.checked.prog.funcNamed "loop.example/g00099/laws.FnExactScanOf" = some f) (hfn : Tryd.pinned.checked.prog.funcs[f]? = some fn) :
  false=Tryd.pinned.checked.prog.looks []∧∀ (j:Nat) t,fn.params[j]?=some t→Tryd.pinned.checked.prog.wantsStandIn t=false:=by
 obtain rfl : f = 7 := Option.some.inj ((show Tryd.prog.funcNamed "loop.example/g00099/laws.FnExactScanOf" = some 7 by kernel_rfl).symm.trans hf) |>.symm
 obtain rfl:fn=Tryd.f7:=(Option.some.inj (Tryd.func7.symm.trans hfn)).symm
 refine⟨by kernel_rfl,fun j t ht=>?_⟩
 rw[Tryd.params7] at ht
 have hm:t=41∨t=4∨t=3:=by simpa using Array.mem_of_getElem? ht
 rcases hm with rfl | rfl | rfl
 ·exact (show Tryd.prog.wantsStandIn 41=false by kernel_rfl)
 ·exact (show Tryd.prog.wantsStandIn 4=false by kernel_rfl)
 ·exact (show Tryd.prog.wantsStandIn 3=false by kernel_rfl)
theorem FnExactScanOf_holds:Rows.FnExactScanOfCardSaid:=
 Claim7.holds_tied_plain_at .later [] _ _ _ _ FnExactScanOf_said (fun _ h=>by cases h) (by kernel_rfl) (fun _ h=>by cases h) fnExactScanOf_row_tie rfl ⟨rfl,rfl⟩ (by kernel_rfl) rfl fnExactScanOf_plain (by kernel_rfl)
#print axioms FnExactScanOf_holds
end Go.Proofs.YtcbbcadfolgioaaDoor
