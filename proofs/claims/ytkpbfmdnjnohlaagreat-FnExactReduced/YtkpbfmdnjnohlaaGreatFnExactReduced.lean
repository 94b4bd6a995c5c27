/-
  Proved here: Reduced answers as the model at every picture, writes into none, and its answer owns its memory.
-/
import Derived.Test.YtkpbfmdnjnohlaaGreatRd36
import Derived.Test.YtkpbfmdnjnohlaaGreatRd50
import Derived.Test.YtkpbfmdnjnohlaaGreatRd52
namespace Go.Proofs.YtkpbfmdnjnohlaaGreat
open Go.ChangeShapes Go.WideShapes Go.ChangeAt Go.RowKit Go.Joins
set_option maxRecDepth 100000 in
theorem FnExactReduced_walk (p0:Pic) (q0:PicA) (w:World) (f0:PngIn w p0 q0) (f1:p0.tn≤maxLen) (f2:p0.cn≤maxLen) (f3:p0.sn≤maxLen) (f4:p0.kn≤maxLen) (f5:∀ i,i < p0.kn→(p0.K i).1.size≤maxLen∧(p0.K i).2.size≤maxLen):
  Calls Tryz.prog 7 #[pngV p0 q0] w fun e w'=>e=.returned (.bool true)∧Below w.heap.size w w':=
 FnExactReduced_over (fun p q w h k=>specReduced p q w h k) (fun p q w h k=>implReduced p q w h k) p0 q0 w f0 f1 f2 f3 f4 f5
set_option maxRecDepth 100000 in
theorem FnExactReduced_lifted (os:Os) (started:os.Started) (H:Type) (enc:TypeId×Value→H):
  ReturnsInHanded {} Tryz.checked os 7 .any (Rows.fnExactReducedSpec.pre6 enc Tryz.prog Tryz.f7 Rows.fnExactReducedRow.domain false) (Rows.fnExactReducedSpec.post enc Tryz.prog Tryz.f7 false true false false):=by
 refine returnsInHanded_of_change (C:=Tryz.checked) (by kernel_rfl) started (by kernel_rfl) Tryz.func7
  (ChangeSpec.witness6 (enc:=enc) (C:=Tryz.checked) false ⟨#[],#[.agg #[.int .i64 0,.int .i64 0,.int .i64 0,.int .i64 0,.bool false,.slice none 0 0,.slice none 0 0,.int .i64 0,.int .i64 0,.int .i64 0,.int .i64 0,.slice none 0 0,.slice none 0 0]],[]⟩ 8 (by kernel_rfl) (by kernel_rfl) (by kernel_rfl) (by kernel_rfl)) ?_
 intro W base args ds gs before hval0 hW hcnd _
 have hval:∀ (j:Nat) t v,Tryz.f7.params[j]?=some t→args[j]?=some v→Value.okWide Tryz.prog W .any base t v:=hval0
 have hW':=hW
 obtain⟨p,q,hA0,hV,rfl,hfz,hnd⟩:=hW
 have hA:DataW.TrodAll enc Tryz.prog W 0 (fun _=>true) true Tryz.f7.params.toList args.toList ds p:=hA0
 rw[Tryz.params7] at hA hval
 obtain⟨v0,vs0,d0,ds0,p0,q0,hargs,rfl,rfl,h0,r0⟩:=trodAll_cons hA
 obtain⟨rfl,rfl,rfl⟩:=trodAll_nil r0
 obtain rfl:args=#[v0]:=by cases args; simp_all
 obtain⟨rfl,rfl⟩:=trodVars_none hV
 have k0:=h0
 have lt0:∀ x∈p0,x.block < W.heap.size:=by obtain⟨m,hm⟩:=k0; exact DataW.trod_lt m _ _ _ hm
 obtain⟨p0_,q0_,rfl,f0_0,f0_1,f0_2,f0_3,f0_4,f0_5⟩:=open_png (hval 0 30 v0 rfl rfl) h0
 clear hA0 hval0
 refine (FnExactReduced_walk p0_ q0_ W f0_0 f0_1 f0_2 f0_3 f0_4 f0_5).mono fun e W' ⟨he,bel⟩=>?_
 subst he
 exact⟨_,rfl,_,_,_,[],_,[],hW',trodAll_mk1 (shut_bool Tryz.underlying4 _),(trodAll_cons_mk (Below.trod (of_laid) (by kernel_rfl) (of_decide_eq_true (by kernel_rfl)) k0 bel lt0) trodAll_mk0),rfl,bel.frame _,fun h=>by cases h⟩
theorem FnExactReduced_holds:Rows.FnExactReducedSaid:=
 OpenClaim.holds_of_wide 7 Tryz.f7 rfl rfl rfl rfl rfl rfl rfl ⟨rfl,rfl,rfl,rfl,rfl⟩ rfl rfl rfl rfl rfl (by kernel_rfl) Tryz.func7 (by kernel_rfl)
  (of_decide_eq_true (by kernel_rfl)) (by unfold Func.isWrapper; first | (rw [if_pos (by decide +kernel)]; kernel_rfl) | (rw [if_neg (by decide +kernel)]; exact⟨rfl,rfl⟩))
  (fun os started H enc _=>FnExactReduced_lifted os started H enc)
#print axioms FnExactReduced_holds
end Go.Proofs.YtkpbfmdnjnohlaaGreat
