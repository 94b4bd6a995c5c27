/-
  Proved here: at every Out, text, list of tokens and truth value the program's BestBlock answers as the document's model does, and it writes into nothing that was there; the program's table of the order of the third code's lengths is as its own text lays it (the card ties it).
-/
import Derived.Test.YtbcnlggkoidmmabGreatDoorCards
import Derived.Test.YtbcnlggkoidmmabGreatDoorTie
import Derived.Test.YtbcnlggkoidmmabGreatDoorPk01
import Derived.Test.YtbcnlggkoidmmabGreatDoorPk22
import Derived.Test.YtbcnlggkoidmmabGreatDoorPk23
import Derived.Test.YtbcnlggkoidmmabGreatDoorPk24
import Derived.Test.YtbcnlggkoidmmabGreatDoorPk30
import Derived.Test.YtbcnlggkoidmmabGreatDoorPk46
import Derived.WalkKit
import Derived.ProofKit
import Derived.OpenShut
import Derived.ShutString
import Derived.ChangeOld
import Derived.ChangeVars
import Derived.OpenVars
import Derived.Below
import Derived.Deep.DeepHandedRow
import Derived.Lib.LaidTab
import Derived.Lib.SmallJoins
namespace Go.Proofs.YtbcnlggkoidmmabGreatDoor
open Go.ChangeShapes Go.WideShapes Go.ChangeAt Go.RowKit Go.Joins InfMath
open Go.ChangeMaps (open_string shut_string)

theorem own_knob : ownKnob Tryz.prog.godebug = none := by kernel_rfl
theorem gOrder : Tryz.prog.globalNamed "loop.example/g00099/impl.thirdOrder" = some 0 := by kernel_rfl
theorem gOrderType : (Tryz.prog.globals[0]?).map (·.type) = some 146 := by kernel_rfl
theorem cellsOrder : Tryz.prog.cellsOf 146 = 19 := by kernel_rfl
theorem cellsInt : Tryz.prog.cellsOf 3 = 1 := by kernel_rfl
/-- What the row's list gives: the table's cells hold its nineteen numbers. -/
theorem order_table {W : World} (h : laidMetH Tryz.prog Rows.fnExactBestBlockRow.laid W) : Lib.TabIs Tryz.prog W "loop.example/g00099/impl.thirdOrder" .i64 [16, 17, 18, 0, 8, 7, 9, 6, 10, 5, 11, 4, 12, 3, 13, 2, 14, 1, 15] :=
  Lib.tabIs_of_head (rest := []) gOrder gOrderType Tryz.underlying146 Tryz.underlying3 cellsInt cellsOrder h
theorem order_laid {W : World} (h : laidMetH Tryz.prog Rows.fnExactBestBlockRow.laid W) : OrderG W := by
  have hc := fun i hi => (order_table h).cell gOrder i hi
  have h0 := hc 0 (by decide)
  refine ⟨?_, fun i hi => ?_⟩
  · rcases Nat.lt_or_ge 0 W.heap.size with q | q
    · exact q
    · unfold World.cell? at h0
      rw [Array.getElem?_eq_none q] at h0
      cases h0
  · rw [hc i (by simpa using hi)]
    have : ∀ i, i < 19 → ([16, 17, 18, 0, 8, 7, 9, 6, 10, 5, 11, 4, 12, 3, 13, 2, 14, 1, 15] : List Int).getD i 0 = ((orderL.getD i 0 : Nat) : Int) := by decide
    rw [this i hi]
set_option maxRecDepth 100000 in
/-- What the walk gives, for every argument and every world that holds the table. -/
theorem fnExactBestBlock_contract (H : Type) (enc : TypeId × Value → H) (W : World) (base : Nat) (args : Array Value) (ds gs : List (DataW H)) (before : List MemPlace)
    (hval : ∀ (j : Nat) t v, Tryz.f3.params[j]? = some t → args[j]? = some v → Value.okWide Tryz.prog W .any base t v)
    (hW : DataW.Whole enc Tryz.prog Tryz.f3.params.toList Rows.fnExactBestBlockSpec.vars false W args.toList ds gs before) (hL : laidMetH Tryz.prog Rows.fnExactBestBlockRow.laid W) :
    Calls Tryz.prog 3 args W fun e W' => ∃ v, e = .returned v ∧ Rows.fnExactBestBlockSpec.post enc Tryz.prog Tryz.f3 false true false false W args v W' := by
  have hW' := hW
  obtain ⟨p, q, hA0, hV, rfl, hfz, hnd⟩ := hW
  have hA : DataW.TrodAll enc Tryz.prog W 0 (fun _ => true) true Tryz.f3.params.toList args.toList ds p := hA0
  rw [Tryz.params3] at hA hval
  obtain ⟨v0, vs0, d0, ds0, p0, q0, hargs, rfl, rfl, h0, r0⟩ := trodAll_cons hA
  obtain ⟨v1, vs1, d1, ds1, p1, q1, rfl, rfl, rfl, h1, r1⟩ := trodAll_cons r0
  obtain ⟨v2, vs2, d2, ds2, p2, q2, rfl, rfl, rfl, h2, r2⟩ := trodAll_cons r1
  obtain ⟨v3, vs3, d3, ds3, p3, q3, rfl, rfl, rfl, h3, r3⟩ := trodAll_cons r2
  obtain ⟨rfl, rfl, rfl⟩ := trodAll_nil r3
  obtain rfl : args = #[v0, v1, v2, v3] := by cases args; simp_all
  have k0 := h0
  have lt0 : ∀ x ∈ p0, x.block < W.heap.size := by obtain ⟨m, hm⟩ := k0; exact DataW.trod_lt m _ _ _ hm
  have k1 := h1
  have lt1 : ∀ x ∈ p1, x.block < W.heap.size := by obtain ⟨m, hm⟩ := k1; exact DataW.trod_lt m _ _ _ hm
  have k2 := h2
  have lt2 : ∀ x ∈ p2, x.block < W.heap.size := by obtain ⟨m, hm⟩ := k2; exact DataW.trod_lt m _ _ _ hm
  have k3 := h3
  have lt3 : ∀ x ∈ p3, x.block < W.heap.size := by obtain ⟨m, hm⟩ := k3; exact DataW.trod_lt m _ _ _ hm
  obtain ⟨c0_0, c0_1, y0_0, y0_1, m0, rfl, rfl, rfl, hy0_0, hy0_1⟩ := open_agg2 Tryz.underlying23 (by kernel_rfl) (by kernel_rfl) (hval 0 23 v0 rfl rfl) h0
  obtain ⟨a0_0, e0_0, rfl, f0_0⟩ := DataW.trod_string Tryz.underlying9 hy0_0
  simp at e0_0
  subst e0_0
  obtain ⟨a0_1, e0_1, rfl, f0_1⟩ := DataW.trod_int Tryz.underlying3 hy0_1
  simp at e0_1
  subst e0_1
  obtain ⟨a1, rfl, rfl, rfl, f1⟩ := open_string Tryz.underlying9 (hval 1 9 v1 rfl rfl) h1
  obtain ⟨a2, len2, cap2, rfl⟩ := okWide_slice Tryz.underlying24 (hval 2 24 v2 rfl rfl)
  obtain ⟨z2, f2, g2, m2, n2⟩ : ∃ L : List (Int × Int × Int), len2 = L.length ∧ TCame W a2 len2 (fun j => L.getD j (0, 0, 0)) ∧ (∀ t ∈ L, (Lit.int .i64 t.1).wf = true ∧ (Lit.int .i64 t.2.1).wf = true ∧ (Lit.int .i64 t.2.2).wf = true) ∧ len2 ≤ maxLen := by
    obtain ⟨fuel, hf⟩ := h2
    exact open_tokens hf
  obtain ⟨a3, rfl, rfl, rfl⟩ := open_bool Tryz.underlying4 (hval 3 4 v3 rfl rfl) h3
  have hgs : ∃ g, gs = [g] := by
    obtain ⟨_, _, _, _, d, _, e, _⟩ := trodVars_one hV
    exact ⟨d, e⟩
  obtain ⟨gd, rfl⟩ := hgs
  clear hA0
  refine (FnExactBestBlock_over (best_answer stored_answer fixed_answer woven_answer) a0_0 a0_1 a1 a2 len2 cap2 z2 a3 W f0_0 f0_1 f1 f2 g2 m2 n2 (order_laid hL)).mono fun e W' ⟨he, bel⟩ => ?_
  subst he
  exact ⟨_, rfl, _, _, _, [], _, _, hW', trodAll_mk1 (shut_bool Tryz.underlying4 _), (trodAll_cons_mk (Below.trod (of_laid) (by kernel_rfl) (of_decide_eq_true (by kernel_rfl)) k0 bel lt0) (trodAll_cons_mk (Below.trod (of_laid) (by kernel_rfl) (of_decide_eq_true (by kernel_rfl)) k1 bel lt1) (trodAll_cons_mk (Below.trod (of_laid) (by kernel_rfl) (of_decide_eq_true (by kernel_rfl)) k2 bel lt2) (trodAll_cons_mk (Below.trod (of_laid) (by kernel_rfl) (of_decide_eq_true (by kernel_rfl)) k3 bel lt3) trodAll_mk0)))), Below.trodVars (of_laid) bel (by kernel_rfl) hV, bel.frame _, fun h => by cases h⟩
/-- A world for the witness: the settled one, the table holding what its initialiser lays. -/
noncomputable def laidWorld (os : Os) : World :=
  { World.holding Tryz.prog os ⟨#[], #[], []⟩ with heap := (World.holding Tryz.prog os ⟨#[], #[], []⟩).heap.modify 0 fun
      | .cells _ t frozen => .cells #[.int .i64 16, .int .i64 17, .int .i64 18, .int .i64 0, .int .i64 8, .int .i64 7, .int .i64 9, .int .i64 6, .int .i64 10, .int .i64 5, .int .i64 11, .int .i64 4, .int .i64 12, .int .i64 3, .int .i64 13, .int .i64 2, .int .i64 14, .int .i64 1, .int .i64 15] t frozen
      | o => o }
theorem laid_met (os : Os) : laidMet Tryz.prog Rows.fnExactBestBlockRow.laid ((laidWorld os).forCall (fun _ _ => 0) ⟨#[], #[.agg #[.string ByteArray.empty, .int .i64 0], .string ByteArray.empty, .slice none 0 0, .bool false], []⟩).memory :=
  laidMet_of_run' 8 (by kernel_rfl) (by kernel_rfl)
theorem reads (os : Os) {H : Type} (enc : TypeId × Value → H) : ∃ places, DataW.whole enc Tryz.prog ((laidWorld os).forCall (fun _ _ => 0) ⟨#[], #[.agg #[.string ByteArray.empty, .int .i64 0], .string ByteArray.empty, .slice none 0 0, .bool false], []⟩).memory Tryz.f3.params.toList Rows.fnExactBestBlockSpec.vars false #[Value.agg #[.string ByteArray.empty, .int .i64 0], .string ByteArray.empty, .slice none 0 0, .bool false].toList 8 = some ([.agg [.lit (.string []), .lit (.int .i64 0)], .lit (.string []), .nil, .lit (.bool false)], [Rows.laid_loop_example_g00099_impl_thirdOrder], places) :=
  ⟨MemPlace.row ⟨0, 0, none⟩ 19, by kernel_rfl⟩
set_option maxRecDepth 100000 in
theorem FnExactBestBlock_lifted (os : Os) (started : os.Started) (H : Type) (enc : TypeId × Value → H) (F : Stop.Interp) :
    ReturnsInHanded {} Tryz.checked os 3 .any ((OpenSpec.ofChange Rows.fnExactBestBlockSpec).preRow enc Tryz.prog Tryz.f3 Rows.fnExactBestBlockRow.domain false Rows.fnExactBestBlockRow.laid) (((OpenSpec.ofChange Rows.fnExactBestBlockSpec).at F).post enc Tryz.prog Tryz.f3 false true false false) := by
  obtain ⟨places, hx⟩ := reads os enc
  refine returnsInHanded_of_row (C := Tryz.checked) (s := OpenSpec.ofChange Rows.fnExactBestBlockSpec) own_knob started (by kernel_rfl) Tryz.func3
    (witness_row_at (enc := enc) (C := Tryz.checked) false (laidWorld os) #[.agg #[.string ByteArray.empty, .int .i64 0], .string ByteArray.empty, .slice none 0 0, .bool false] rfl (by kernel_rfl) (by kernel_rfl) (by kernel_rfl)
      (OpenSpec.preRow_of_cond 8 hx (by kernel_rfl) (fun k hk => by cases hk) (by kernel_rfl) (laid_met os))) ?_
  intro W base args ds gs before hval hW _ _ _ hL _ _
  exact fnExactBestBlock_contract H enc W base args ds gs before hval hW hL
theorem FnExactBestBlock_said : Rows.FnExactBestBlockSaid :=
  OpenClaim.holds_of_cond 3 Tryz.f3 rfl rfl rfl rfl rfl rfl rfl ⟨rfl, rfl, rfl, rfl, rfl⟩ rfl rfl rfl rfl rfl (by kernel_rfl) Tryz.func3 (by kernel_rfl)
    (of_decide_eq_true (by kernel_rfl)) (by unfold Func.isWrapper; first | (rw [if_pos (by decide +kernel)]; kernel_rfl) | (rw [if_neg (by decide +kernel)]; exact ⟨rfl, rfl⟩))
    (fun os started H enc _ F => by rw [OpenClaim.pre_eq_preRow]; exact FnExactBestBlock_lifted os started H enc F)
/-- No parameter wants a stand-in; the program's own looks. -/
theorem fnExactBestBlock_plain (f : FuncId) (fn : Func) (hf : Tryz.pinned.checked.prog.funcNamed "loop.example/g00099/laws.FnExactBestBlock" = some f) (hfn : Tryz.pinned.checked.prog.funcs[f]? = some fn) :
    true = Tryz.pinned.checked.prog.looks [] ∧ ∀ (j : Nat) t, fn.params[j]? = some t → Tryz.pinned.checked.prog.wantsStandIn t = false := by
  obtain rfl : f = 3 := Option.some.inj ((show Tryz.prog.funcNamed "loop.example/g00099/laws.FnExactBestBlock" = some 3 by kernel_rfl).symm.trans hf) |>.symm
  obtain rfl : fn = Tryz.f3 := (Option.some.inj (Tryz.func3.symm.trans hfn)).symm
  refine ⟨by kernel_rfl, fun j t ht => ?_⟩
  rw [Tryz.params3] at ht
  have hm : t = 23 ∨ t = 9 ∨ t = 24 ∨ t = 4 := by simpa using Array.mem_of_getElem? ht
  rcases hm with rfl | rfl | rfl | rfl
  · exact (show Tryz.prog.wantsStandIn 23 = false by kernel_rfl)
  · exact (show Tryz.prog.wantsStandIn 9 = false by kernel_rfl)
  · exact (show Tryz.prog.wantsStandIn 24 = false by kernel_rfl)
  · exact (show Tryz.prog.wantsStandIn 4 = false by kernel_rfl)
theorem FnExactBestBlock_holds : Rows.FnExactBestBlockCardSaid :=
  Claim7.holds_tied_plain_at .later [] _ _ _ _ FnExactBestBlock_said (fun _ h => by cases h) (by kernel_rfl) (fun _ h => by cases h) fnExactBestBlock_row_tie rfl ⟨rfl, rfl⟩ (by kernel_rfl) rfl fnExactBestBlock_plain (by kernel_rfl)

#print axioms FnExactBestBlock_holds

end Go.Proofs.YtbcnlggkoidmmabGreatDoor
