/-
  Proved here: of whatever code a text is drawn: what Deflate makes of it, cut anywhere, is refused as at its end; with anything behind it, it is unpacked to the same; the handle of the type error is as the program's own text lays it; the program's table of the order of the third code's lengths is as its own text lays it (the card ties it).
-/
import Derived.Test.YtklpiihnbokkkaaGreatDoorCards
import Derived.Test.YtklpiihnbokkkaaGreatDoorTie
import Derived.Test.YtklpiihnbokkkaaGreatDoorGk01
namespace Go.Proofs.YtklpiihnbokkkaaGreatDoor
open Go.ChangeShapes Go.WideShapes Go.ChangeAt Go.RowKit Go.Joins InfMath
open Go.ChangeMaps (open_string shut_string)
theorem own_knob:ownKnob Tryz.prog.godebug=none:=by kernel_rfl
theorem gOrder : Tryz.prog.globalNamed "loop.example/g00099/impl.thirdOrder" = some 1 := by kernel_rfl
theorem gOrderType:(Tryz.prog.globals[1]?).map (·.type)=some 259:=by kernel_rfl
theorem cellsOrder:Tryz.prog.cellsOf 259=19:=by kernel_rfl
theorem cellsInt:Tryz.prog.cellsOf 3=1:=by kernel_rfl
theorem order_table {W : World} (h : laidMetH Tryz.prog Rows.fnCutRow.laid W) : Lib.TabIs Tryz.prog W "loop.example/g00099/impl.thirdOrder" .i64 [16, 17, 18, 0, 8, 7, 9, 6, 10, 5, 11, 4, 12, 3, 13, 2, 14, 1, 15] :=
 Lib.tabIs_of_head (rest := []) gOrder gOrderType Tryz.underlying259 Tryz.underlying3 cellsInt cellsOrder (show laidMet Tryz.prog [("loop.example/g00099/impl.thirdOrder", Rows.laid_loop_example_g00099_impl_thirdOrder)] W ∧ _ from h).1
theorem order_laid {W:World} (h:laidMetH Tryz.prog Rows.fnCutRow.laid W):OrderG W:=by
 have hc:=fun i hi=>(order_table h).cell gOrder i hi
 have h0:=hc 0 (by decide)
 refine⟨?_,fun i hi=>?_⟩
 ·rcases Nat.lt_or_ge 1 W.heap.size with q | q
  ·exact q
  ·unfold World.cell? at h0
   rw[Array.getElem?_eq_none q] at h0
   cases h0
 ·rw[hc i (by simpa using hi)]
  have:∀ i,i < 19→([16,17,18,0,8,7,9,6,10,5,11,4,12,3,13,2,14,1,15]:List Int).getD i 0=((orderL.getD i 0:Nat):Int):=by decide
  rw[this i hi]
theorem gErr : Tryz.prog.globalNamed "errors.errorType" = some 0 := by kernel_rfl
theorem errRt : (Tryz.prog.cutTypes.find? (·.1 == "internal/reflectlite.rtype")).map (·.2) = some 206 := by kernel_rfl
theorem errRow:((List.range 324).filter fun t=>Tryz.prog.rowNamed t [101,114,114,111,114])=[46]:=by kernel_rfl
theorem errTypes:Tryz.prog.types.size=324:=by kernel_rfl
theorem err_laid {W:World} (h:laidMetH Tryz.prog Rows.fnCutRow.laid W):ErrG W:=by
 have h' : laidMet Tryz.prog [("loop.example/g00099/impl.thirdOrder", Rows.laid_loop_example_g00099_impl_thirdOrder)] W ∧ handlesMet Tryz.prog [("errors.errorType", Rows.laid_errors_errorType)] W := h
 obtain⟨name,u,ty,e1,e2,e3,e4,e5⟩:=h'.2 _ (List.mem_singleton.2 rfl)
 have en:name=[101,114,114,111,114]:=(Option.some.inj e1).symm
 subst en
 obtain rfl:=Option.some.inj (errRt.symm.trans e2)
 have hm:ty∈(List.range 324).filter fun t=>Tryz.prog.rowNamed t [101,114,114,111,114]:=List.mem_filter.2 ⟨List.mem_range.2 (by rw [← errTypes]; exact e3),e4⟩
 rw[errRow] at hm
 obtain rfl:=List.mem_singleton.1 hm
 have hh:typeHandle Tryz.prog 46=.pointer (some ⟨2,46,none⟩):=by kernel_rfl
 rw[hh] at e5
 have hc:W.cell? ⟨0,0,none⟩=some (.iface 206 (.agg #[.pointer (some ⟨2,46,none⟩)])):=by simpa using World.var?_cell gErr e5 0
 refine⟨?_,hc⟩
 rcases Nat.eq_zero_or_pos W.heap.size with h0 | h0
 ·simp[World.cell?,h0] at hc
 ·exact h0
set_option maxRecDepth 100000 in
theorem fnCut_contract (H:Type) (enc:TypeId×Value→H) (W:World) (base:Nat) (args:Array Value) (ds gs:List (DataW H)) (before:List MemPlace)
  (hval:∀ (j:Nat) t v,Tryz.f3.params[j]?=some t→args[j]?=some v→Value.okWide Tryz.prog W .any base t v)
  (hW:DataW.Whole enc Tryz.prog Tryz.f3.params.toList Rows.fnCutSpec.vars false W args.toList ds gs before) (hL:laidMetH Tryz.prog Rows.fnCutRow.laid W):
  Calls Tryz.prog 3 args W fun e W'=>∃ v,e=.returned v∧Rows.fnCutSpec.post enc Tryz.prog Tryz.f3 false true false false W args v W':=by
 have hW':=hW
 obtain⟨p,q,hA0,hV,rfl,hfz,hnd⟩:=hW
 have hA:DataW.TrodAll enc Tryz.prog W 0 (fun _=>true) true Tryz.f3.params.toList args.toList ds p:=hA0
 rw[Tryz.params3] at hA hval
 obtain⟨v0,vs0,d0,ds0,p0,q0,hargs,rfl,rfl,h0,r0⟩:=trodAll_cons hA
 obtain⟨rfl,rfl,rfl⟩:=trodAll_nil r0
 obtain rfl:args=#[v0]:=by cases args; simp_all
 have k0:=h0
 have lt0:∀ x∈p0,x.block < W.heap.size:=by obtain⟨m,hm⟩:=k0; exact DataW.trod_lt m _ _ _ hm
 obtain⟨a0,len0,cap0,rfl⟩:=okWide_slice Tryz.underlying22 (hval 0 22 v0 rfl rfl)
 obtain⟨z0,f0⟩:∃ zs,IsRow .u8 W a0 len0 cap0 zs:=by
  obtain⟨fuel,hf⟩:=h0
  rcases open_ints Tryz.underlying22 Tryz.underlying5 (by kernel_rfl) hf with ⟨hcs,_⟩ | ⟨x,l,c,zs,hcs,_,hl,hm,hz,_,hcell,hwz⟩
  ·simp[Value.cells] at hcs
   obtain⟨rfl,rfl,rfl⟩:=hcs
   exact⟨[],.inl ⟨rfl,rfl,rfl,rfl⟩⟩
  ·simp[Value.cells] at hcs
   obtain⟨rfl,rfl,rfl⟩:=hcs
   exact⟨zs,.inr ⟨_,rfl,hl,hm,by simpa using hz,hcell,hwz⟩⟩
 have hgs:∃ g,gs=[g]:=by
  obtain⟨_,_,_,_,d,_,e,_⟩:=trodVars_one hV
  exact⟨d,e⟩
 obtain⟨gd,rfl⟩:=hgs
 clear hA0
 refine (cut_law (deflate_answer stored_answer fixed_answer (bestBlk_answer stored_answer fixed_answer woven_answer) greedy_answer lazy_answer cheap_answer) a0 len0 cap0 z0 W f0 ⟨order_laid hL,err_laid hL⟩).mono fun e W' ⟨he,bel⟩=>?_
 subst he
 exact⟨_,rfl,_,_,_,[],_,_,hW',trodAll_mk1 (shut_bool Tryz.underlying4 _),(trodAll_cons_mk (Below.trod (of_laid) (by kernel_rfl) (of_decide_eq_true (by kernel_rfl)) k0 bel lt0) trodAll_mk0),Below.trodVars (of_laid) bel (by kernel_rfl) hV,bel.frame _,fun h=>by cases h⟩
noncomputable def laidWorld0 (os:Os):World:=
 { World.holding Tryz.prog os ⟨#[],#[],[]⟩ with heap:=(World.holding Tryz.prog os ⟨#[],#[],[]⟩).heap.modify 1 fun
   | .cells _ t frozen=>.cells #[.int .i64 16,.int .i64 17,.int .i64 18,.int .i64 0,.int .i64 8,.int .i64 7,.int .i64 9,.int .i64 6,.int .i64 10,.int .i64 5,.int .i64 11,.int .i64 4,.int .i64 12,.int .i64 3,.int .i64 13,.int .i64 2,.int .i64 14,.int .i64 1,.int .i64 15] t frozen
   | o=>o }
noncomputable def laidWorld (os:Os):World:=
 { laidWorld0 os with heap:=(laidWorld0 os).heap.modify 0 fun
   | .cells _ t frozen=>.cells #[.iface 206 (.agg #[typeHandle Tryz.prog 46])] t frozen
   | o=>o }
theorem laid_met (os:Os):laidMetH Tryz.prog Rows.fnCutRow.laid ((laidWorld os).forCall (fun _ _=>0) ⟨#[],#[.slice none 0 0],[]⟩).memory:=
 laidMetH_of_parts (laidMet_of_run' 8 (by kernel_rfl) (by kernel_rfl)) (by kernel_rfl)
theorem reads (os:Os) {H:Type} (enc:TypeId×Value→H):∃ places,DataW.whole enc Tryz.prog ((laidWorld os).forCall (fun _ _=>0) ⟨#[],#[.slice none 0 0],[]⟩).memory Tryz.f3.params.toList Rows.fnCutSpec.vars false #[Value.slice none 0 0].toList 8=some ([.nil],[Rows.laid_loop_example_g00099_impl_thirdOrder],places):=
 ⟨MemPlace.row ⟨1,0,none⟩ 19,by kernel_rfl⟩
set_option maxRecDepth 100000 in
theorem FnCut_lifted (os:Os) (started:os.Started) (H:Type) (enc:TypeId×Value→H) (F:Stop.Interp):
  ReturnsInHanded {} Tryz.checked os 3 .any ((OpenSpec.ofChange Rows.fnCutSpec).preRow enc Tryz.prog Tryz.f3 Rows.fnCutRow.domain false Rows.fnCutRow.laid) (((OpenSpec.ofChange Rows.fnCutSpec).at F).post enc Tryz.prog Tryz.f3 false true false false):=by
 obtain⟨places,hx⟩:=reads os enc
 refine returnsInHanded_of_row (C:=Tryz.checked) (s:=OpenSpec.ofChange Rows.fnCutSpec) own_knob started (by kernel_rfl) Tryz.func3
  (witness_row_at (enc:=enc) (C:=Tryz.checked) false (laidWorld os) #[.slice none 0 0] rfl (by kernel_rfl) (by kernel_rfl) (by kernel_rfl)
   (OpenSpec.preRow_of_cond 8 hx (by kernel_rfl) (fun k hk=>by cases hk) (by kernel_rfl) (laid_met os))) ?_
 intro W base args ds gs before hval hW _ _ _ hL _ _
 exact fnCut_contract H enc W base args ds gs before hval hW hL
theorem FnCut_said:Rows.FnCutSaid:=
 OpenClaim.holds_of_cond 3 Tryz.f3 rfl rfl rfl rfl rfl rfl rfl ⟨rfl,rfl,rfl,rfl,rfl⟩ rfl rfl rfl rfl rfl (by kernel_rfl) Tryz.func3 (by kernel_rfl)
  (of_decide_eq_true (by kernel_rfl)) (by unfold Func.isWrapper; first | (rw [if_pos (by decide +kernel)]; kernel_rfl) | (rw [if_neg (by decide +kernel)]; exact⟨rfl,rfl⟩))
  (fun os started H enc _ F=>by rw [OpenClaim.pre_eq_preRow]; exact FnCut_lifted os started H enc F)
theorem fnCut_plain (f : FuncId) (fn : Func) (hf : Tryz.pinned.checked.prog.funcNamed "loop.example/g00099/laws.FnCut" = some f) (hfn : Tryz.pinned.checked.prog.funcs[f]? = some fn) :
  true=Tryz.pinned.checked.prog.looks []∧∀ (j:Nat) t,fn.params[j]?=some t→Tryz.pinned.checked.prog.wantsStandIn t=false:=by
 obtain rfl : f = 3 := Option.some.inj ((show Tryz.prog.funcNamed "loop.example/g00099/laws.FnCut" = some 3 by kernel_rfl).symm.trans hf) |>.symm
 obtain rfl:fn=Tryz.f3:=(Option.some.inj (Tryz.func3.symm.trans hfn)).symm
 refine⟨by kernel_rfl,fun j t ht=>?_⟩
 rw[Tryz.params3] at ht
 have hm:t=22:=by simpa using Array.mem_of_getElem? ht
 subst hm
 exact (show Tryz.prog.wantsStandIn 22=false by kernel_rfl)
theorem FnCut_holds:Rows.FnCutCardSaid:=
 Claim7.holds_tied_plain_at .later [] _ _ _ _ FnCut_said (fun _ h=>by cases h) (by kernel_rfl) (fun _ h=>by cases h) fnCut_row_tie rfl ⟨rfl,rfl⟩ (by kernel_rfl) rfl fnCut_plain (by kernel_rfl)
#print axioms FnCut_holds
end Go.Proofs.YtklpiihnbokkkaaGreatDoor
