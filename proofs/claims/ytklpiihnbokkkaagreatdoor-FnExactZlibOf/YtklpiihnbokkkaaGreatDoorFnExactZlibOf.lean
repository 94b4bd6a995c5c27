/-
  Proved here: at every text and level the program's ZlibOf answers as the document's model does, and it writes into nothing that was there; the program's table of the order of the third code's lengths is as its own text lays it (the card ties it).; the program's table of the order of the third code's lengths is as its own text lays it (the card ties it).
-/
import Derived.Test.YtklpiihnbokkkaaGreatDoorCards
import Derived.Test.YtklpiihnbokkkaaGreatDoorTie
import Derived.Test.YtklpiihnbokkkaaGreatDoorZk49
import Derived.OpenVars
import Derived.Deep.DeepHandedRow
namespace Go.Proofs.YtklpiihnbokkkaaGreatDoor
open Go.ChangeShapes Go.WideShapes Go.ChangeAt Go.RowKit Go.Joins InfMath
open Go.ChangeMaps (open_string shut_string)
theorem own_knob:ownKnob Tryz.prog.godebug=none:=by kernel_rfl
theorem gOrder : Tryz.prog.globalNamed "loop.example/g00099/impl.thirdOrder" = some 1 := by kernel_rfl
theorem gOrderType:(Tryz.prog.globals[1]?).map (·.type)=some 259:=by kernel_rfl
theorem cellsOrder:Tryz.prog.cellsOf 259=19:=by kernel_rfl
theorem cellsInt:Tryz.prog.cellsOf 3=1:=by kernel_rfl
theorem order_table {W : World} (h : laidMetH Tryz.prog Rows.fnExactZlibOfRow.laid W) : Lib.TabIs Tryz.prog W "loop.example/g00099/impl.thirdOrder" .i64 [16, 17, 18, 0, 8, 7, 9, 6, 10, 5, 11, 4, 12, 3, 13, 2, 14, 1, 15] :=
 Lib.tabIs_of_head (rest:=[]) gOrder gOrderType Tryz.underlying259 Tryz.underlying3 cellsInt cellsOrder h
theorem order_laid {W:World} (h:laidMetH Tryz.prog Rows.fnExactZlibOfRow.laid W):OrderG W:=by
 have hc:=fun i hi=>(order_table h).cell gOrder i hi
 have h0:=hc 0 (by decide)
 refine⟨?_,fun i hi=>?_⟩
 ·rcases Nat.lt_or_ge 1 W.heap.size with q | q
  ·exact q
  ·unfold World.cell? at h0
   rw[Array.getElem?_eq_none q] at h0
   cases h0
 ·rw[hc i (by simpa using hi)]
  have:∀ i,i < 19→([16,17,18,0,8,7,9,6,10,5,11,4,12,3,13,2,14,1,15]:List Int).getD i 0=((orderL.getD i 0:Nat):Int):=by decide
  rw[this i hi]
set_option maxRecDepth 100000 in
theorem fnExactZlibOf_contract (H:Type) (enc:TypeId×Value→H) (W:World) (base:Nat) (args:Array Value) (ds gs:List (DataW H)) (before:List MemPlace)
  (hval:∀ (j:Nat) t v,Tryz.f6.params[j]?=some t→args[j]?=some v→Value.okWide Tryz.prog W .any base t v)
  (hW:DataW.Whole enc Tryz.prog Tryz.f6.params.toList Rows.fnExactZlibOfSpec.vars false W args.toList ds gs before) (hL:laidMetH Tryz.prog Rows.fnExactZlibOfRow.laid W):
  Calls Tryz.prog 6 args W fun e W'=>∃ v,e=.returned v∧Rows.fnExactZlibOfSpec.post enc Tryz.prog Tryz.f6 false true false false W args v W':=by
 have hW':=hW
 obtain⟨p,q,hA0,hV,rfl,hfz,hnd⟩:=hW
 have hA:DataW.TrodAll enc Tryz.prog W 0 (fun _=>true) true Tryz.f6.params.toList args.toList ds p:=hA0
 rw[Tryz.params6] at hA hval
 obtain⟨v0,vs0,d0,ds0,p0,q0,hargs,rfl,rfl,h0,r0⟩:=trodAll_cons hA
 obtain⟨v1,vs1,d1,ds1,p1,q1,rfl,rfl,rfl,h1,r1⟩:=trodAll_cons r0
 obtain⟨rfl,rfl,rfl⟩:=trodAll_nil r1
 obtain rfl:args=#[v0,v1]:=by cases args; simp_all
 have k0:=h0
 have lt0:∀ x∈p0,x.block < W.heap.size:=by obtain⟨m,hm⟩:=k0; exact DataW.trod_lt m _ _ _ hm
 have k1:=h1
 have lt1:∀ x∈p1,x.block < W.heap.size:=by obtain⟨m,hm⟩:=k1; exact DataW.trod_lt m _ _ _ hm
 obtain⟨a0,rfl,rfl,rfl,f0⟩:=open_string Tryz.underlying9 (hval 0 9 v0 rfl rfl) h0
 obtain⟨a1,rfl,rfl,rfl,f1⟩:=open_int Tryz.underlying3 (hval 1 3 v1 rfl rfl) h1
 have hgs:∃ g,gs=[g]:=by
  obtain⟨_,_,_,_,d,_,e,_⟩:=trodVars_one hV
  exact⟨d,e⟩
 obtain⟨gd,rfl⟩:=hgs
 clear hA0
 refine (FnExactZlibOf_over (zlib_answer (deflate_answer stored_answer fixed_answer (bestBlk_answer stored_answer fixed_answer woven_answer) greedy_answer lazy_answer cheap_answer)) (fun t lv w h=>specZlib (fun t lv w h=>specDeflate specStored specFixedBlock specBestBlock specGreedy specLazy specCheap t lv w h) t lv w h) a0 a1 W f0 f1 (order_laid hL)).mono fun e W' ⟨he,bel⟩=>?_
 subst he
 exact⟨_,rfl,_,_,_,[],_,_,hW',trodAll_mk1 (shut_bool Tryz.underlying4 _),(trodAll_cons_mk (Below.trod (of_laid) (by kernel_rfl) (of_decide_eq_true (by kernel_rfl)) k0 bel lt0) (trodAll_cons_mk (Below.trod (of_laid) (by kernel_rfl) (of_decide_eq_true (by kernel_rfl)) k1 bel lt1) trodAll_mk0)),Below.trodVars (of_laid) bel (by kernel_rfl) hV,bel.frame _,fun h=>by cases h⟩
noncomputable def laidWorld (os:Os):World:=
 { World.holding Tryz.prog os ⟨#[],#[],[]⟩ with heap:=(World.holding Tryz.prog os ⟨#[],#[],[]⟩).heap.modify 1 fun
   | .cells _ t frozen=>.cells #[.int .i64 16,.int .i64 17,.int .i64 18,.int .i64 0,.int .i64 8,.int .i64 7,.int .i64 9,.int .i64 6,.int .i64 10,.int .i64 5,.int .i64 11,.int .i64 4,.int .i64 12,.int .i64 3,.int .i64 13,.int .i64 2,.int .i64 14,.int .i64 1,.int .i64 15] t frozen
   | o=>o }
theorem laid_met (os:Os):laidMet Tryz.prog Rows.fnExactZlibOfRow.laid ((laidWorld os).forCall (fun _ _=>0) ⟨#[],#[.string ByteArray.empty,.int .i64 0],[]⟩).memory:=
 laidMet_of_run' 8 (by kernel_rfl) (by kernel_rfl)
theorem reads (os:Os) {H:Type} (enc:TypeId×Value→H):∃ places,DataW.whole enc Tryz.prog ((laidWorld os).forCall (fun _ _=>0) ⟨#[],#[.string ByteArray.empty,.int .i64 0],[]⟩).memory Tryz.f6.params.toList Rows.fnExactZlibOfSpec.vars false #[Value.string ByteArray.empty,.int .i64 0].toList 8=some ([.lit (.string []),.lit (.int .i64 0)],[Rows.laid_loop_example_g00099_impl_thirdOrder],places):=
 ⟨MemPlace.row ⟨1,0,none⟩ 19,by kernel_rfl⟩
set_option maxRecDepth 100000 in
theorem FnExactZlibOf_lifted (os:Os) (started:os.Started) (H:Type) (enc:TypeId×Value→H) (F:Stop.Interp):
  ReturnsInHanded {} Tryz.checked os 6 .any ((OpenSpec.ofChange Rows.fnExactZlibOfSpec).preRow enc Tryz.prog Tryz.f6 Rows.fnExactZlibOfRow.domain false Rows.fnExactZlibOfRow.laid) (((OpenSpec.ofChange Rows.fnExactZlibOfSpec).at F).post enc Tryz.prog Tryz.f6 false true false false):=by
 obtain⟨places,hx⟩:=reads os enc
 refine returnsInHanded_of_row (C:=Tryz.checked) (s:=OpenSpec.ofChange Rows.fnExactZlibOfSpec) own_knob started (by kernel_rfl) Tryz.func6
  (witness_row_at (enc:=enc) (C:=Tryz.checked) false (laidWorld os) #[.string ByteArray.empty,.int .i64 0] rfl (by kernel_rfl) (by kernel_rfl) (by kernel_rfl)
   (OpenSpec.preRow_of_cond 8 hx (by kernel_rfl) (fun k hk=>by cases hk) (by kernel_rfl) (laid_met os))) ?_
 intro W base args ds gs before hval hW _ _ _ hL _ _
 exact fnExactZlibOf_contract H enc W base args ds gs before hval hW hL
theorem FnExactZlibOf_said:Rows.FnExactZlibOfSaid:=
 OpenClaim.holds_of_cond 6 Tryz.f6 rfl rfl rfl rfl rfl rfl rfl ⟨rfl,rfl,rfl,rfl,rfl⟩ rfl rfl rfl rfl rfl (by kernel_rfl) Tryz.func6 (by kernel_rfl)
  (of_decide_eq_true (by kernel_rfl)) (by unfold Func.isWrapper; first | (rw [if_pos (by decide +kernel)]; kernel_rfl) | (rw [if_neg (by decide +kernel)]; exact⟨rfl,rfl⟩))
  (fun os started H enc _ F=>by rw [OpenClaim.pre_eq_preRow]; exact FnExactZlibOf_lifted os started H enc F)
theorem fnExactZlibOf_plain (f : FuncId) (fn : Func) (hf : Tryz.pinned.checked.prog.funcNamed "loop.example/g00099/laws.FnExactZlibOf" = some f) (hfn : Tryz.pinned.checked.prog.funcs[f]? = some fn) :
  true=Tryz.pinned.checked.prog.looks []∧∀ (j:Nat) t,fn.params[j]?=some t→Tryz.pinned.checked.prog.wantsStandIn t=false:=by
 obtain rfl : f = 6 := Option.some.inj ((show Tryz.prog.funcNamed "loop.example/g00099/laws.FnExactZlibOf" = some 6 by kernel_rfl).symm.trans hf) |>.symm
 obtain rfl:fn=Tryz.f6:=(Option.some.inj (Tryz.func6.symm.trans hfn)).symm
 refine⟨by kernel_rfl,fun j t ht=>?_⟩
 rw[Tryz.params6] at ht
 have hm:t=9∨t=3:=by simpa using Array.mem_of_getElem? ht
 rcases hm with rfl | rfl
 ·exact (show Tryz.prog.wantsStandIn 9=false by kernel_rfl)
 ·exact (show Tryz.prog.wantsStandIn 3=false by kernel_rfl)
theorem FnExactZlibOf_holds:Rows.FnExactZlibOfCardSaid:=
 Claim7.holds_tied_plain_at .later [] _ _ _ _ FnExactZlibOf_said (fun _ h=>by cases h) (by kernel_rfl) (fun _ h=>by cases h) fnExactZlibOf_row_tie rfl ⟨rfl,rfl⟩ (by kernel_rfl) rfl fnExactZlibOf_plain (by kernel_rfl)
#print axioms FnExactZlibOf_holds
end Go.Proofs.YtklpiihnbokkkaaGreatDoor
