/-
  NARROWER THAN 'FOR EVERY INPUT', by the rows' own cells (each row's printed sentence says how): FnPasses: laid · FnScans: laid · FnExactPassesOf: laid · FnExactFromPasses: laid · FnExactScanOf: laid · FnExactScanRead: laid.
  DERIVED. THE GIVEN ROWS OF THIS SEAT. 6 by the template 'for every input the law returns true; each argument reads behind the call as it read before'; 0 by the template 'total and deterministic' (their statements: YtcbbcadfolgioaaDoorTotals.lean).
  GIVEN WITH THE SEED: the statements are not yours to turn. If you find one false, say at which input.
  Laid BY PROGRAM, IN A SANDBOX (cutbox-rows.mjs): the forced cells as the released guide's own fill.sh prints them over the translation 05096cb17983e2cd… (all of the seat's roots in one cut). By AI agents, Wed Nov 11 2026. No macro, syntax, notation, axiom, sorry.
-/
import Derived.Test.YtcbbcadfolgioaaDoorChecked
import GoSem.Claim
import GoSem.ClaimJoined
import GoSem.ClaimMapViews
import Derived.JoinedTies
import Derived.KernelRfl
namespace Go.Proofs.YtcbbcadfolgioaaDoor
/- THE CELL 'sum', in the pinned program and in every row, IS THE sha256 OF THE DUMP (.gsa) THAT YtcbbcadfolgioaaDoorProg.lean LOADS. Nothing in Lean hashes anything: it is a label: what it is worth is what the hold of that sum in a sandbox is worth. -/
noncomputable def Tryd.pinned : Pinned := { name := "ytcbbcadfolgioaadoor", sum := "05096cb17983e2cd03097238de46a293b8511fe8fb5330292de8dc7983ee4b0a", checked := Tryd.checked }
namespace Rows
def none {H : Type} : Left H := { results := [], args := [] }

/- WHAT THE LISTED PACKAGE-LEVEL VARIABLES READ AS WHEN THE CALL BEGINS. Each datum BY PROGRAM (the guide's laid-datum.mjs) off the statement by which the dump's own 'gosem.cut.vars' lays the variable. In a bare row this is a premise. The card (YtcbbcadfolgioaaDoorCards.lean) ties it to the program's text. -/
def laid_loop_example_g00099_impl_passGrids {H : Type} : DataW H := .agg [.agg [.lit (.int .i64 0), .lit (.int .i64 0), .lit (.int .i64 8), .lit (.int .i64 8)], .agg [.lit (.int .i64 4), .lit (.int .i64 0), .lit (.int .i64 8), .lit (.int .i64 8)], .agg [.lit (.int .i64 0), .lit (.int .i64 4), .lit (.int .i64 4), .lit (.int .i64 8)], .agg [.lit (.int .i64 2), .lit (.int .i64 0), .lit (.int .i64 4), .lit (.int .i64 4)], .agg [.lit (.int .i64 0), .lit (.int .i64 2), .lit (.int .i64 2), .lit (.int .i64 4)], .agg [.lit (.int .i64 1), .lit (.int .i64 0), .lit (.int .i64 2), .lit (.int .i64 2)], .agg [.lit (.int .i64 0), .lit (.int .i64 1), .lit (.int .i64 1), .lit (.int .i64 2)]]

/-- 'laws.FnPasses': WHATEVER THE INPUT: true; the input reads as it did. -/
def fnPassesSpec : ChangeSpec := { name := "fnPasses", vars := ["loop.example/g00099/impl.passGrids"], fn := fun _ => fun
  | [d, g1] => { results := [.lit (.bool true)], args := [d], vars := [g1] }
  | _ => none }
def fnPassesRow : OpenClaim := { program := "ytcbbcadfolgioaadoor", sum := "05096cb17983e2cd03097238de46a293b8511fe8fb5330292de8dc7983ee4b0a", func := "loop.example/g00099/laws.FnPasses", spec := "fnPasses", named := ["loop.example/g00099/impl.passGrids"], apart := false, laid := [("loop.example/g00099/impl.passGrids", laid_loop_example_g00099_impl_passGrids)] }
def FnPassesSaid : Prop := fnPassesRow.holds Tryd.pinned (OpenSpec.ofChange fnPassesSpec)

/-- ITS FALSE NEIGHBOUR: 'it returns false'. Refute it at one input. -/
def fnPassesWrong : ChangeSpec := { name := "fnPasses", vars := ["loop.example/g00099/impl.passGrids"], fn := fun _ => fun
  | [d, g1] => { results := [.lit (.bool false)], args := [d], vars := [g1] }
  | _ => none }
def FnPassesWrongFalsely : Prop := fnPassesRow.holds Tryd.pinned (OpenSpec.ofChange fnPassesWrong)

/-- 'laws.FnScans': WHATEVER THE INPUT: true; the input reads as it did. -/
def fnScansSpec : ChangeSpec := { name := "fnScans", vars := ["loop.example/g00099/impl.passGrids"], fn := fun _ => fun
  | [d, g1] => { results := [.lit (.bool true)], args := [d], vars := [g1] }
  | _ => none }
def fnScansRow : OpenClaim := { program := "ytcbbcadfolgioaadoor", sum := "05096cb17983e2cd03097238de46a293b8511fe8fb5330292de8dc7983ee4b0a", func := "loop.example/g00099/laws.FnScans", spec := "fnScans", unfollowed := true, recurses := true, named := ["loop.example/g00099/impl.passGrids"], apart := false, laid := [("loop.example/g00099/impl.passGrids", laid_loop_example_g00099_impl_passGrids)] }
def FnScansSaid : Prop := fnScansRow.holds Tryd.pinned (OpenSpec.ofChange fnScansSpec)

/-- ITS FALSE NEIGHBOUR: 'it returns false'. Refute it at one input. -/
def fnScansWrong : ChangeSpec := { name := "fnScans", vars := ["loop.example/g00099/impl.passGrids"], fn := fun _ => fun
  | [d, g1] => { results := [.lit (.bool false)], args := [d], vars := [g1] }
  | _ => none }
def FnScansWrongFalsely : Prop := fnScansRow.holds Tryd.pinned (OpenSpec.ofChange fnScansWrong)

/-- 'laws.FnExactPassesOf': WHATEVER THE INPUT: true; the input reads as it did. -/
def fnExactPassesOfSpec : ChangeSpec := { name := "fnExactPassesOf", vars := ["loop.example/g00099/impl.passGrids"], fn := fun _ => fun
  | [d, g1] => { results := [.lit (.bool true)], args := [d], vars := [g1] }
  | _ => none }
def fnExactPassesOfRow : OpenClaim := { program := "ytcbbcadfolgioaadoor", sum := "05096cb17983e2cd03097238de46a293b8511fe8fb5330292de8dc7983ee4b0a", func := "loop.example/g00099/laws.FnExactPassesOf", spec := "fnExactPassesOf", named := ["loop.example/g00099/impl.passGrids"], apart := false, laid := [("loop.example/g00099/impl.passGrids", laid_loop_example_g00099_impl_passGrids)] }
def FnExactPassesOfSaid : Prop := fnExactPassesOfRow.holds Tryd.pinned (OpenSpec.ofChange fnExactPassesOfSpec)

/-- ITS FALSE NEIGHBOUR: 'it returns false'. Refute it at one input. -/
def fnExactPassesOfWrong : ChangeSpec := { name := "fnExactPassesOf", vars := ["loop.example/g00099/impl.passGrids"], fn := fun _ => fun
  | [d, g1] => { results := [.lit (.bool false)], args := [d], vars := [g1] }
  | _ => none }
def FnExactPassesOfWrongFalsely : Prop := fnExactPassesOfRow.holds Tryd.pinned (OpenSpec.ofChange fnExactPassesOfWrong)

/-- 'laws.FnExactFromPasses': WHATEVER THE INPUT: true; the input reads as it did. -/
def fnExactFromPassesSpec : ChangeSpec := { name := "fnExactFromPasses", vars := ["loop.example/g00099/impl.passGrids"], fn := fun _ => fun
  | [d1, d2, d3, g1] => { results := [.lit (.bool true)], args := [d1, d2, d3], vars := [g1] }
  | _ => none }
def fnExactFromPassesRow : OpenClaim := { program := "ytcbbcadfolgioaadoor", sum := "05096cb17983e2cd03097238de46a293b8511fe8fb5330292de8dc7983ee4b0a", func := "loop.example/g00099/laws.FnExactFromPasses", spec := "fnExactFromPasses", named := ["loop.example/g00099/impl.passGrids"], apart := false, laid := [("loop.example/g00099/impl.passGrids", laid_loop_example_g00099_impl_passGrids)] }
def FnExactFromPassesSaid : Prop := fnExactFromPassesRow.holds Tryd.pinned (OpenSpec.ofChange fnExactFromPassesSpec)

/-- ITS FALSE NEIGHBOUR: 'it returns false'. Refute it at one input. -/
def fnExactFromPassesWrong : ChangeSpec := { name := "fnExactFromPasses", vars := ["loop.example/g00099/impl.passGrids"], fn := fun _ => fun
  | [d1, d2, d3, g1] => { results := [.lit (.bool false)], args := [d1, d2, d3], vars := [g1] }
  | _ => none }
def FnExactFromPassesWrongFalsely : Prop := fnExactFromPassesRow.holds Tryd.pinned (OpenSpec.ofChange fnExactFromPassesWrong)

/-- 'laws.FnExactScanOf': WHATEVER THE INPUT: true; the input reads as it did. -/
def fnExactScanOfSpec : ChangeSpec := { name := "fnExactScanOf", vars := ["loop.example/g00099/impl.passGrids"], fn := fun _ => fun
  | [d1, d2, d3, g1] => { results := [.lit (.bool true)], args := [d1, d2, d3], vars := [g1] }
  | _ => none }
def fnExactScanOfRow : OpenClaim := { program := "ytcbbcadfolgioaadoor", sum := "05096cb17983e2cd03097238de46a293b8511fe8fb5330292de8dc7983ee4b0a", func := "loop.example/g00099/laws.FnExactScanOf", spec := "fnExactScanOf", unfollowed := true, recurses := true, named := ["loop.example/g00099/impl.passGrids"], apart := false, laid := [("loop.example/g00099/impl.passGrids", laid_loop_example_g00099_impl_passGrids)] }
def FnExactScanOfSaid : Prop := fnExactScanOfRow.holds Tryd.pinned (OpenSpec.ofChange fnExactScanOfSpec)

/-- ITS FALSE NEIGHBOUR: 'it returns false'. Refute it at one input. -/
def fnExactScanOfWrong : ChangeSpec := { name := "fnExactScanOf", vars := ["loop.example/g00099/impl.passGrids"], fn := fun _ => fun
  | [d1, d2, d3, g1] => { results := [.lit (.bool false)], args := [d1, d2, d3], vars := [g1] }
  | _ => none }
def FnExactScanOfWrongFalsely : Prop := fnExactScanOfRow.holds Tryd.pinned (OpenSpec.ofChange fnExactScanOfWrong)

/-- 'laws.FnExactScanRead': WHATEVER THE INPUT: true; the input reads as it did. -/
def fnExactScanReadSpec : ChangeSpec := { name := "fnExactScanRead", vars := ["loop.example/g00099/impl.passGrids"], fn := fun _ => fun
  | [d1, d2, d3, d4, d5, d6, g1] => { results := [.lit (.bool true)], args := [d1, d2, d3, d4, d5, d6], vars := [g1] }
  | _ => none }
def fnExactScanReadRow : OpenClaim := { program := "ytcbbcadfolgioaadoor", sum := "05096cb17983e2cd03097238de46a293b8511fe8fb5330292de8dc7983ee4b0a", func := "loop.example/g00099/laws.FnExactScanRead", spec := "fnExactScanRead", unfollowed := true, recurses := true, named := ["loop.example/g00099/impl.passGrids"], apart := false, laid := [("loop.example/g00099/impl.passGrids", laid_loop_example_g00099_impl_passGrids)] }
def FnExactScanReadSaid : Prop := fnExactScanReadRow.holds Tryd.pinned (OpenSpec.ofChange fnExactScanReadSpec)

/-- ITS FALSE NEIGHBOUR: 'it returns false'. Refute it at one input. -/
def fnExactScanReadWrong : ChangeSpec := { name := "fnExactScanRead", vars := ["loop.example/g00099/impl.passGrids"], fn := fun _ => fun
  | [d1, d2, d3, d4, d5, d6, g1] => { results := [.lit (.bool false)], args := [d1, d2, d3, d4, d5, d6], vars := [g1] }
  | _ => none }
def FnExactScanReadWrongFalsely : Prop := fnExactScanReadRow.holds Tryd.pinned (OpenSpec.ofChange fnExactScanReadWrong)

/- THE SECOND FORM. 'bulk': how many values and letters a reading holds, each counted each time it is reached (what is shared counts as often as it is met; a slice's spare places count too). A statement '..UptoSaid' is the law's where the arguments, and the package variables that the reading takes, are together of bulk at most 1048576: NARROWER than '..Said'. Prove '..Said' where nothing that the law and all that it calls make is longer than what came in: it says more and counts as full. Else prove '..UptoSaid'. A law counts once. -/
mutual
def uptoBulk {H : Type} : DataW H → Nat
  | .lit (.string bytes) => bytes.length + 1
  | .lit _ => 1
  | .nil => 1
  | .ptr d => uptoBulk d + 1
  | .slice elems spare => uptoBulkAll elems + uptoBulkAll spare + 1
  | .agg parts => uptoBulkAll parts + 1
  | .iface _ d => uptoBulk d + 1
  | .map entries => uptoBulkEntries entries + 1
  | .held _ => 1
def uptoBulkAll {H : Type} : List (DataW H) → Nat
  | [] => 0
  | d :: r => uptoBulk d + uptoBulkAll r
def uptoBulkEntries {H : Type} : List (Lit × DataW H) → Nat
  | [] => 0
  | x :: r => uptoBulkEntry x + uptoBulkEntries r
def uptoBulkEntry {H : Type} : Lit × DataW H → Nat
  | (.string bytes, d) => bytes.length + uptoBulk d + 1
  | (_, d) => uptoBulk d + 1
 end
def uptoSmall : (H : Type) → List (DataW H) → Bool := fun _ ds => decide (uptoBulkAll ds ≤ 1048576)
def OpenSpec.upto (s : _root_.Go.ChangeSpec) : _root_.Go.OpenSpec := { _root_.Go.OpenSpec.ofChange s with cond := some uptoSmall }

/-- 'laws.FnPasses', WHERE WHAT IT READS IS OF BULK AT MOST 1048576: true; the input reads as it did. -/
def fnPassesUptoRow : OpenClaim := { program := "ytcbbcadfolgioaadoor", sum := "05096cb17983e2cd03097238de46a293b8511fe8fb5330292de8dc7983ee4b0a", func := "loop.example/g00099/laws.FnPasses", spec := "fnPasses", named := ["loop.example/g00099/impl.passGrids"], apart := false, laid := [("loop.example/g00099/impl.passGrids", laid_loop_example_g00099_impl_passGrids)], narrowed := true }
def FnPassesUptoSaid : Prop := fnPassesUptoRow.holds Tryd.pinned (OpenSpec.upto fnPassesSpec)

/-- 'laws.FnScans', WHERE WHAT IT READS IS OF BULK AT MOST 1048576: true; the input reads as it did. -/
def fnScansUptoRow : OpenClaim := { program := "ytcbbcadfolgioaadoor", sum := "05096cb17983e2cd03097238de46a293b8511fe8fb5330292de8dc7983ee4b0a", func := "loop.example/g00099/laws.FnScans", spec := "fnScans", unfollowed := true, recurses := true, named := ["loop.example/g00099/impl.passGrids"], apart := false, laid := [("loop.example/g00099/impl.passGrids", laid_loop_example_g00099_impl_passGrids)], narrowed := true }
def FnScansUptoSaid : Prop := fnScansUptoRow.holds Tryd.pinned (OpenSpec.upto fnScansSpec)

/-- 'laws.FnExactPassesOf', WHERE WHAT IT READS IS OF BULK AT MOST 1048576: true; the input reads as it did. -/
def fnExactPassesOfUptoRow : OpenClaim := { program := "ytcbbcadfolgioaadoor", sum := "05096cb17983e2cd03097238de46a293b8511fe8fb5330292de8dc7983ee4b0a", func := "loop.example/g00099/laws.FnExactPassesOf", spec := "fnExactPassesOf", named := ["loop.example/g00099/impl.passGrids"], apart := false, laid := [("loop.example/g00099/impl.passGrids", laid_loop_example_g00099_impl_passGrids)], narrowed := true }
def FnExactPassesOfUptoSaid : Prop := fnExactPassesOfUptoRow.holds Tryd.pinned (OpenSpec.upto fnExactPassesOfSpec)

/-- 'laws.FnExactFromPasses', WHERE WHAT IT READS IS OF BULK AT MOST 1048576: true; the input reads as it did. -/
def fnExactFromPassesUptoRow : OpenClaim := { program := "ytcbbcadfolgioaadoor", sum := "05096cb17983e2cd03097238de46a293b8511fe8fb5330292de8dc7983ee4b0a", func := "loop.example/g00099/laws.FnExactFromPasses", spec := "fnExactFromPasses", named := ["loop.example/g00099/impl.passGrids"], apart := false, laid := [("loop.example/g00099/impl.passGrids", laid_loop_example_g00099_impl_passGrids)], narrowed := true }
def FnExactFromPassesUptoSaid : Prop := fnExactFromPassesUptoRow.holds Tryd.pinned (OpenSpec.upto fnExactFromPassesSpec)

/-- 'laws.FnExactScanOf', WHERE WHAT IT READS IS OF BULK AT MOST 1048576: true; the input reads as it did. -/
def fnExactScanOfUptoRow : OpenClaim := { program := "ytcbbcadfolgioaadoor", sum := "05096cb17983e2cd03097238de46a293b8511fe8fb5330292de8dc7983ee4b0a", func := "loop.example/g00099/laws.FnExactScanOf", spec := "fnExactScanOf", unfollowed := true, recurses := true, named := ["loop.example/g00099/impl.passGrids"], apart := false, laid := [("loop.example/g00099/impl.passGrids", laid_loop_example_g00099_impl_passGrids)], narrowed := true }
def FnExactScanOfUptoSaid : Prop := fnExactScanOfUptoRow.holds Tryd.pinned (OpenSpec.upto fnExactScanOfSpec)

/-- 'laws.FnExactScanRead', WHERE WHAT IT READS IS OF BULK AT MOST 1048576: true; the input reads as it did. -/
def fnExactScanReadUptoRow : OpenClaim := { program := "ytcbbcadfolgioaadoor", sum := "05096cb17983e2cd03097238de46a293b8511fe8fb5330292de8dc7983ee4b0a", func := "loop.example/g00099/laws.FnExactScanRead", spec := "fnExactScanRead", unfollowed := true, recurses := true, named := ["loop.example/g00099/impl.passGrids"], apart := false, laid := [("loop.example/g00099/impl.passGrids", laid_loop_example_g00099_impl_passGrids)], narrowed := true }
def FnExactScanReadUptoSaid : Prop := fnExactScanReadUptoRow.holds Tryd.pinned (OpenSpec.upto fnExactScanReadSpec)

end Rows
end Go.Proofs.YtcbbcadfolgioaaDoor
