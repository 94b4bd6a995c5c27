/-
  NARROWER THAN 'FOR EVERY INPUT', by the rows' own cells (each row's printed sentence says how): FnPasses: laid · FnExactPassStep: laid · FnExactPassSize: laid · FnExactPassesOf: laid · FnExactFromPasses: laid.
  DERIVED. THE GIVEN ROWS OF THIS SEAT. 5 by the template 'for every input the law returns true; each argument reads behind the call as it read before'; 0 by the template 'total and deterministic' (their statements: YtmanafegckibjaaDoorTotals.lean).
  GIVEN WITH THE SEED: the statements are not yours to turn. If you find one false, say at which input.
  Laid BY PROGRAM, IN A SANDBOX (cutbox-rows.mjs): the forced cells as the released guide's own fill.sh prints them over the translation 24fef9042f90b4c2… (all of the seat's roots in one cut). By AI agents, Wed Nov 11 2026. No macro, syntax, notation, axiom, sorry.
-/
import Derived.Test.YtmanafegckibjaaDoorChecked
import GoSem.Claim
import GoSem.ClaimJoined
import GoSem.ClaimMapViews
import Derived.JoinedTies
import Derived.KernelRfl
namespace Go.Proofs.YtmanafegckibjaaDoor
/- THE CELL 'sum', in the pinned program and in every row, IS THE sha256 OF THE DUMP (.gsa) THAT YtmanafegckibjaaDoorProg.lean LOADS. Nothing in Lean hashes anything: it is a label: what it is worth is what the hold of that sum in a sandbox is worth. -/
noncomputable def Tryd.pinned : Pinned := { name := "ytmanafegckibjaadoor", sum := "24fef9042f90b4c24a0175c1357a48537aef832178d76be070af34245a2e9703", checked := Tryd.checked }
namespace Rows
def none {H : Type} : Left H := { results := [], args := [] }

/- WHAT THE LISTED PACKAGE-LEVEL VARIABLES READ AS WHEN THE CALL BEGINS. Each datum BY PROGRAM (the guide's laid-datum.mjs) off the statement by which the dump's own 'gosem.cut.vars' lays the variable. In a bare row this is a premise. The card (YtmanafegckibjaaDoorCards.lean) ties it to the program's text. -/
def laid_loop_example_g00099_impl_passGrids {H : Type} : DataW H := .agg [.agg [.lit (.int .i64 0), .lit (.int .i64 0), .lit (.int .i64 8), .lit (.int .i64 8)], .agg [.lit (.int .i64 4), .lit (.int .i64 0), .lit (.int .i64 8), .lit (.int .i64 8)], .agg [.lit (.int .i64 0), .lit (.int .i64 4), .lit (.int .i64 4), .lit (.int .i64 8)], .agg [.lit (.int .i64 2), .lit (.int .i64 0), .lit (.int .i64 4), .lit (.int .i64 4)], .agg [.lit (.int .i64 0), .lit (.int .i64 2), .lit (.int .i64 2), .lit (.int .i64 4)], .agg [.lit (.int .i64 1), .lit (.int .i64 0), .lit (.int .i64 2), .lit (.int .i64 2)], .agg [.lit (.int .i64 0), .lit (.int .i64 1), .lit (.int .i64 1), .lit (.int .i64 2)]]

/-- 'laws.FnPasses': WHATEVER THE INPUT: true; the input reads as it did. -/
def fnPassesSpec : ChangeSpec := { name := "fnPasses", vars := ["loop.example/g00099/impl.passGrids"], fn := fun _ => fun
  | [d, g1] => { results := [.lit (.bool true)], args := [d], vars := [g1] }
  | _ => none }
def fnPassesRow : OpenClaim := { program := "ytmanafegckibjaadoor", sum := "24fef9042f90b4c24a0175c1357a48537aef832178d76be070af34245a2e9703", func := "loop.example/g00099/laws.FnPasses", spec := "fnPasses", named := ["loop.example/g00099/impl.passGrids"], apart := false, laid := [("loop.example/g00099/impl.passGrids", laid_loop_example_g00099_impl_passGrids)] }
def FnPassesSaid : Prop := fnPassesRow.holds Tryd.pinned (OpenSpec.ofChange fnPassesSpec)

/-- ITS FALSE NEIGHBOUR: 'it returns false'. Refute it at one input. -/
def fnPassesWrong : ChangeSpec := { name := "fnPasses", vars := ["loop.example/g00099/impl.passGrids"], fn := fun _ => fun
  | [d, g1] => { results := [.lit (.bool false)], args := [d], vars := [g1] }
  | _ => none }
def FnPassesWrongFalsely : Prop := fnPassesRow.holds Tryd.pinned (OpenSpec.ofChange fnPassesWrong)

/-- 'laws.FnExactPassStep': WHATEVER THE INPUT: true; the input reads as it did. -/
def fnExactPassStepSpec : ChangeSpec := { name := "fnExactPassStep", vars := ["loop.example/g00099/impl.passGrids"], fn := fun _ => fun
  | [d, g1] => { results := [.lit (.bool true)], args := [d], vars := [g1] }
  | _ => none }
def fnExactPassStepRow : OpenClaim := { program := "ytmanafegckibjaadoor", sum := "24fef9042f90b4c24a0175c1357a48537aef832178d76be070af34245a2e9703", func := "loop.example/g00099/laws.FnExactPassStep", spec := "fnExactPassStep", named := ["loop.example/g00099/impl.passGrids"], apart := false, laid := [("loop.example/g00099/impl.passGrids", laid_loop_example_g00099_impl_passGrids)] }
def FnExactPassStepSaid : Prop := fnExactPassStepRow.holds Tryd.pinned (OpenSpec.ofChange fnExactPassStepSpec)

/-- ITS FALSE NEIGHBOUR: 'it returns false'. Refute it at one input. -/
def fnExactPassStepWrong : ChangeSpec := { name := "fnExactPassStep", vars := ["loop.example/g00099/impl.passGrids"], fn := fun _ => fun
  | [d, g1] => { results := [.lit (.bool false)], args := [d], vars := [g1] }
  | _ => none }
def FnExactPassStepWrongFalsely : Prop := fnExactPassStepRow.holds Tryd.pinned (OpenSpec.ofChange fnExactPassStepWrong)

/-- 'laws.FnExactPassSize': WHATEVER THE INPUT: true; the input reads as it did. -/
def fnExactPassSizeSpec : ChangeSpec := { name := "fnExactPassSize", vars := ["loop.example/g00099/impl.passGrids"], fn := fun _ => fun
  | [d1, d2, d3, g1] => { results := [.lit (.bool true)], args := [d1, d2, d3], vars := [g1] }
  | _ => none }
def fnExactPassSizeRow : OpenClaim := { program := "ytmanafegckibjaadoor", sum := "24fef9042f90b4c24a0175c1357a48537aef832178d76be070af34245a2e9703", func := "loop.example/g00099/laws.FnExactPassSize", spec := "fnExactPassSize", named := ["loop.example/g00099/impl.passGrids"], apart := false, laid := [("loop.example/g00099/impl.passGrids", laid_loop_example_g00099_impl_passGrids)] }
def FnExactPassSizeSaid : Prop := fnExactPassSizeRow.holds Tryd.pinned (OpenSpec.ofChange fnExactPassSizeSpec)

/-- ITS FALSE NEIGHBOUR: 'it returns false'. Refute it at one input. -/
def fnExactPassSizeWrong : ChangeSpec := { name := "fnExactPassSize", vars := ["loop.example/g00099/impl.passGrids"], fn := fun _ => fun
  | [d1, d2, d3, g1] => { results := [.lit (.bool false)], args := [d1, d2, d3], vars := [g1] }
  | _ => none }
def FnExactPassSizeWrongFalsely : Prop := fnExactPassSizeRow.holds Tryd.pinned (OpenSpec.ofChange fnExactPassSizeWrong)

/-- 'laws.FnExactPassesOf': WHATEVER THE INPUT: true; the input reads as it did. -/
def fnExactPassesOfSpec : ChangeSpec := { name := "fnExactPassesOf", vars := ["loop.example/g00099/impl.passGrids"], fn := fun _ => fun
  | [d, g1] => { results := [.lit (.bool true)], args := [d], vars := [g1] }
  | _ => none }
def fnExactPassesOfRow : OpenClaim := { program := "ytmanafegckibjaadoor", sum := "24fef9042f90b4c24a0175c1357a48537aef832178d76be070af34245a2e9703", func := "loop.example/g00099/laws.FnExactPassesOf", spec := "fnExactPassesOf", named := ["loop.example/g00099/impl.passGrids"], apart := false, laid := [("loop.example/g00099/impl.passGrids", laid_loop_example_g00099_impl_passGrids)] }
def FnExactPassesOfSaid : Prop := fnExactPassesOfRow.holds Tryd.pinned (OpenSpec.ofChange fnExactPassesOfSpec)

/-- ITS FALSE NEIGHBOUR: 'it returns false'. Refute it at one input. -/
def fnExactPassesOfWrong : ChangeSpec := { name := "fnExactPassesOf", vars := ["loop.example/g00099/impl.passGrids"], fn := fun _ => fun
  | [d, g1] => { results := [.lit (.bool false)], args := [d], vars := [g1] }
  | _ => none }
def FnExactPassesOfWrongFalsely : Prop := fnExactPassesOfRow.holds Tryd.pinned (OpenSpec.ofChange fnExactPassesOfWrong)

/-- 'laws.FnExactFromPasses': WHATEVER THE INPUT: true; the input reads as it did. -/
def fnExactFromPassesSpec : ChangeSpec := { name := "fnExactFromPasses", vars := ["loop.example/g00099/impl.passGrids"], fn := fun _ => fun
  | [d1, d2, d3, g1] => { results := [.lit (.bool true)], args := [d1, d2, d3], vars := [g1] }
  | _ => none }
def fnExactFromPassesRow : OpenClaim := { program := "ytmanafegckibjaadoor", sum := "24fef9042f90b4c24a0175c1357a48537aef832178d76be070af34245a2e9703", func := "loop.example/g00099/laws.FnExactFromPasses", spec := "fnExactFromPasses", named := ["loop.example/g00099/impl.passGrids"], apart := false, laid := [("loop.example/g00099/impl.passGrids", laid_loop_example_g00099_impl_passGrids)] }
def FnExactFromPassesSaid : Prop := fnExactFromPassesRow.holds Tryd.pinned (OpenSpec.ofChange fnExactFromPassesSpec)

/-- ITS FALSE NEIGHBOUR: 'it returns false'. Refute it at one input. -/
def fnExactFromPassesWrong : ChangeSpec := { name := "fnExactFromPasses", vars := ["loop.example/g00099/impl.passGrids"], fn := fun _ => fun
  | [d1, d2, d3, g1] => { results := [.lit (.bool false)], args := [d1, d2, d3], vars := [g1] }
  | _ => none }
def FnExactFromPassesWrongFalsely : Prop := fnExactFromPassesRow.holds Tryd.pinned (OpenSpec.ofChange fnExactFromPassesWrong)

/- THE SECOND FORM. 'bulk': how many values and letters a reading holds, each counted each time it is reached (what is shared counts as often as it is met; a slice's spare places count too). A statement '..UptoSaid' is the law's where the arguments, and the package variables that the reading takes, are together of bulk at most 1048576: NARROWER than '..Said'. Prove '..Said' where nothing that the law and all that it calls make is longer than what came in: it says more and counts as full. Else prove '..UptoSaid'. A law counts once. -/
mutual
def uptoBulk {H : Type} : DataW H → Nat
  | .lit (.string bytes) => bytes.length + 1
  | .lit _ => 1
  | .nil => 1
  | .ptr d => uptoBulk d + 1
  | .slice elems spare => uptoBulkAll elems + uptoBulkAll spare + 1
  | .agg parts => uptoBulkAll parts + 1
  | .iface _ d => uptoBulk d + 1
  | .map entries => uptoBulkEntries entries + 1
  | .held _ => 1
def uptoBulkAll {H : Type} : List (DataW H) → Nat
  | [] => 0
  | d :: r => uptoBulk d + uptoBulkAll r
def uptoBulkEntries {H : Type} : List (Lit × DataW H) → Nat
  | [] => 0
  | x :: r => uptoBulkEntry x + uptoBulkEntries r
def uptoBulkEntry {H : Type} : Lit × DataW H → Nat
  | (.string bytes, d) => bytes.length + uptoBulk d + 1
  | (_, d) => uptoBulk d + 1
 end
def uptoSmall : (H : Type) → List (DataW H) → Bool := fun _ ds => decide (uptoBulkAll ds ≤ 1048576)
def OpenSpec.upto (s : _root_.Go.ChangeSpec) : _root_.Go.OpenSpec := { _root_.Go.OpenSpec.ofChange s with cond := some uptoSmall }

/-- 'laws.FnPasses', WHERE WHAT IT READS IS OF BULK AT MOST 1048576: true; the input reads as it did. -/
def fnPassesUptoRow : OpenClaim := { program := "ytmanafegckibjaadoor", sum := "24fef9042f90b4c24a0175c1357a48537aef832178d76be070af34245a2e9703", func := "loop.example/g00099/laws.FnPasses", spec := "fnPasses", named := ["loop.example/g00099/impl.passGrids"], apart := false, laid := [("loop.example/g00099/impl.passGrids", laid_loop_example_g00099_impl_passGrids)], narrowed := true }
def FnPassesUptoSaid : Prop := fnPassesUptoRow.holds Tryd.pinned (OpenSpec.upto fnPassesSpec)

/-- 'laws.FnExactPassStep', WHERE WHAT IT READS IS OF BULK AT MOST 1048576: true; the input reads as it did. -/
def fnExactPassStepUptoRow : OpenClaim := { program := "ytmanafegckibjaadoor", sum := "24fef9042f90b4c24a0175c1357a48537aef832178d76be070af34245a2e9703", func := "loop.example/g00099/laws.FnExactPassStep", spec := "fnExactPassStep", named := ["loop.example/g00099/impl.passGrids"], apart := false, laid := [("loop.example/g00099/impl.passGrids", laid_loop_example_g00099_impl_passGrids)], narrowed := true }
def FnExactPassStepUptoSaid : Prop := fnExactPassStepUptoRow.holds Tryd.pinned (OpenSpec.upto fnExactPassStepSpec)

/-- 'laws.FnExactPassSize', WHERE WHAT IT READS IS OF BULK AT MOST 1048576: true; the input reads as it did. -/
def fnExactPassSizeUptoRow : OpenClaim := { program := "ytmanafegckibjaadoor", sum := "24fef9042f90b4c24a0175c1357a48537aef832178d76be070af34245a2e9703", func := "loop.example/g00099/laws.FnExactPassSize", spec := "fnExactPassSize", named := ["loop.example/g00099/impl.passGrids"], apart := false, laid := [("loop.example/g00099/impl.passGrids", laid_loop_example_g00099_impl_passGrids)], narrowed := true }
def FnExactPassSizeUptoSaid : Prop := fnExactPassSizeUptoRow.holds Tryd.pinned (OpenSpec.upto fnExactPassSizeSpec)

/-- 'laws.FnExactPassesOf', WHERE WHAT IT READS IS OF BULK AT MOST 1048576: true; the input reads as it did. -/
def fnExactPassesOfUptoRow : OpenClaim := { program := "ytmanafegckibjaadoor", sum := "24fef9042f90b4c24a0175c1357a48537aef832178d76be070af34245a2e9703", func := "loop.example/g00099/laws.FnExactPassesOf", spec := "fnExactPassesOf", named := ["loop.example/g00099/impl.passGrids"], apart := false, laid := [("loop.example/g00099/impl.passGrids", laid_loop_example_g00099_impl_passGrids)], narrowed := true }
def FnExactPassesOfUptoSaid : Prop := fnExactPassesOfUptoRow.holds Tryd.pinned (OpenSpec.upto fnExactPassesOfSpec)

/-- 'laws.FnExactFromPasses', WHERE WHAT IT READS IS OF BULK AT MOST 1048576: true; the input reads as it did. -/
def fnExactFromPassesUptoRow : OpenClaim := { program := "ytmanafegckibjaadoor", sum := "24fef9042f90b4c24a0175c1357a48537aef832178d76be070af34245a2e9703", func := "loop.example/g00099/laws.FnExactFromPasses", spec := "fnExactFromPasses", named := ["loop.example/g00099/impl.passGrids"], apart := false, laid := [("loop.example/g00099/impl.passGrids", laid_loop_example_g00099_impl_passGrids)], narrowed := true }
def FnExactFromPassesUptoSaid : Prop := fnExactFromPassesUptoRow.holds Tryd.pinned (OpenSpec.upto fnExactFromPassesSpec)

end Rows
end Go.Proofs.YtmanafegckibjaaDoor
