/-
  NARROWER THAN 'FOR EVERY INPUT', by the rows' own cells (each row's printed sentence says how): FnCut: laid · FnZlib: laid · FnExactDeflate: laid · FnExactZlibOf: laid.
  DERIVED. THE GIVEN ROWS OF THIS SEAT. 4 by the template 'for every input the law returns true; each argument reads behind the call as it read before'; 0 by the template 'total and deterministic' (their statements: YtklpiihnbokkkaaGreatDoorTotals.lean).
  GIVEN WITH THE SEED: the statements are not yours to turn. If you find one false, say at which input.
  Laid BY PROGRAM, IN A SANDBOX (cutbox-rows.mjs): the forced cells as the released guide's own fill.sh prints them over the translation 92990bd0341f0c37… (all of the seat's roots in one cut). By AI agents, Wed Nov 11 2026. No macro, syntax, notation, axiom, sorry.
-/
import Derived.Test.YtklpiihnbokkkaaGreatDoorChecked
import GoSem.Claim
import GoSem.ClaimJoined
import GoSem.ClaimMapViews
import Derived.JoinedTies
import Derived.KernelRfl
namespace Go.Proofs.YtklpiihnbokkkaaGreatDoor
/- THE CELL 'sum', in the pinned program and in every row, IS THE sha256 OF THE DUMP (.gsa) THAT YtklpiihnbokkkaaGreatDoorProg.lean LOADS. Nothing in Lean hashes anything: it is a label: what it is worth is what the hold of that sum in a sandbox is worth. -/
noncomputable def Tryz.pinned : Pinned := { name := "ytklpiihnbokkkaagreatdoor", sum := "92990bd0341f0c373e2fc25c7f12d6cb06e6fc88392a36f4ea93a8e59be9ec11", checked := Tryz.checked }
namespace Rows
def none {H : Type} : Left H := { results := [], args := [] }

/- WHAT THE LISTED PACKAGE-LEVEL VARIABLES READ AS WHEN THE CALL BEGINS. Each datum BY PROGRAM (the guide's laid-datum.mjs) off the statement by which the dump's own 'gosem.cut.vars' lays the variable. In a bare row this is a premise. The card (YtklpiihnbokkkaaGreatDoorCards.lean) ties it to the program's text. -/
def laid_errors_errorType {H : Type} : DataW H := .iface "internal/reflectlite.rtype" (.agg [.ptr (.lit (.string [101, 114, 114, 111, 114]))])
def laid_loop_example_g00099_impl_thirdOrder {H : Type} : DataW H := .agg [.lit (.int .i64 16), .lit (.int .i64 17), .lit (.int .i64 18), .lit (.int .i64 0), .lit (.int .i64 8), .lit (.int .i64 7), .lit (.int .i64 9), .lit (.int .i64 6), .lit (.int .i64 10), .lit (.int .i64 5), .lit (.int .i64 11), .lit (.int .i64 4), .lit (.int .i64 12), .lit (.int .i64 3), .lit (.int .i64 13), .lit (.int .i64 2), .lit (.int .i64 14), .lit (.int .i64 1), .lit (.int .i64 15)]

/-- 'laws.FnCut': WHATEVER THE INPUT: true; the input reads as it did. -/
def fnCutSpec : ChangeSpec := { name := "fnCut", vars := ["loop.example/g00099/impl.thirdOrder"], fn := fun _ => fun
  | [d, g1] => { results := [.lit (.bool true)], args := [d], vars := [g1] }
  | _ => none }
def fnCutRow : OpenClaim := { program := "ytklpiihnbokkkaagreatdoor", sum := "92990bd0341f0c373e2fc25c7f12d6cb06e6fc88392a36f4ea93a8e59be9ec11", func := "loop.example/g00099/laws.FnCut", spec := "fnCut", inPlace := ["internal/reflectlite.ValueOf", "(internal/reflectlite.Value).Type", "(internal/reflectlite.Value).IsNil", "internal/reflectlite.TypeOf", "(internal/reflectlite.Value).Elem", "(internal/reflectlite.Value).Set"], unfollowed := true, recurses := true, named := ["loop.example/g00099/impl.thirdOrder", "errors.errorType"], plainKeys := false, apart := false, laid := [("errors.errorType", laid_errors_errorType), ("loop.example/g00099/impl.thirdOrder", laid_loop_example_g00099_impl_thirdOrder)] }
def FnCutSaid : Prop := fnCutRow.holds Tryz.pinned (OpenSpec.ofChange fnCutSpec)

/-- ITS FALSE NEIGHBOUR: 'it returns false'. Refute it at one input. -/
def fnCutWrong : ChangeSpec := { name := "fnCut", vars := ["loop.example/g00099/impl.thirdOrder"], fn := fun _ => fun
  | [d, g1] => { results := [.lit (.bool false)], args := [d], vars := [g1] }
  | _ => none }
def FnCutWrongFalsely : Prop := fnCutRow.holds Tryz.pinned (OpenSpec.ofChange fnCutWrong)

/-- 'laws.FnZlib': WHATEVER THE INPUT: true; the input reads as it did. -/
def fnZlibSpec : ChangeSpec := { name := "fnZlib", vars := ["loop.example/g00099/impl.thirdOrder"], fn := fun _ => fun
  | [d, g1] => { results := [.lit (.bool true)], args := [d], vars := [g1] }
  | _ => none }
def fnZlibRow : OpenClaim := { program := "ytklpiihnbokkkaagreatdoor", sum := "92990bd0341f0c373e2fc25c7f12d6cb06e6fc88392a36f4ea93a8e59be9ec11", func := "loop.example/g00099/laws.FnZlib", spec := "fnZlib", inPlace := ["internal/reflectlite.ValueOf", "(internal/reflectlite.Value).Type", "(internal/reflectlite.Value).IsNil", "internal/reflectlite.TypeOf", "(internal/reflectlite.Value).Elem", "(internal/reflectlite.Value).Set"], unfollowed := true, recurses := true, named := ["loop.example/g00099/impl.thirdOrder", "errors.errorType"], plainKeys := false, apart := false, laid := [("errors.errorType", laid_errors_errorType), ("loop.example/g00099/impl.thirdOrder", laid_loop_example_g00099_impl_thirdOrder)] }
def FnZlibSaid : Prop := fnZlibRow.holds Tryz.pinned (OpenSpec.ofChange fnZlibSpec)

/-- ITS FALSE NEIGHBOUR: 'it returns false'. Refute it at one input. -/
def fnZlibWrong : ChangeSpec := { name := "fnZlib", vars := ["loop.example/g00099/impl.thirdOrder"], fn := fun _ => fun
  | [d, g1] => { results := [.lit (.bool false)], args := [d], vars := [g1] }
  | _ => none }
def FnZlibWrongFalsely : Prop := fnZlibRow.holds Tryz.pinned (OpenSpec.ofChange fnZlibWrong)

/-- 'laws.FnExactDeflate': WHATEVER THE INPUT: true; the input reads as it did. -/
def fnExactDeflateSpec : ChangeSpec := { name := "fnExactDeflate", vars := ["loop.example/g00099/impl.thirdOrder"], fn := fun _ => fun
  | [d1, d2, g1] => { results := [.lit (.bool true)], args := [d1, d2], vars := [g1] }
  | _ => none }
def fnExactDeflateRow : OpenClaim := { program := "ytklpiihnbokkkaagreatdoor", sum := "92990bd0341f0c373e2fc25c7f12d6cb06e6fc88392a36f4ea93a8e59be9ec11", func := "loop.example/g00099/laws.FnExactDeflate", spec := "fnExactDeflate", unfollowed := true, recurses := true, named := ["loop.example/g00099/impl.thirdOrder"], plainKeys := false, apart := false, laid := [("loop.example/g00099/impl.thirdOrder", laid_loop_example_g00099_impl_thirdOrder)] }
def FnExactDeflateSaid : Prop := fnExactDeflateRow.holds Tryz.pinned (OpenSpec.ofChange fnExactDeflateSpec)

/-- ITS FALSE NEIGHBOUR: 'it returns false'. Refute it at one input. -/
def fnExactDeflateWrong : ChangeSpec := { name := "fnExactDeflate", vars := ["loop.example/g00099/impl.thirdOrder"], fn := fun _ => fun
  | [d1, d2, g1] => { results := [.lit (.bool false)], args := [d1, d2], vars := [g1] }
  | _ => none }
def FnExactDeflateWrongFalsely : Prop := fnExactDeflateRow.holds Tryz.pinned (OpenSpec.ofChange fnExactDeflateWrong)

/-- 'laws.FnExactZlibOf': WHATEVER THE INPUT: true; the input reads as it did. -/
def fnExactZlibOfSpec : ChangeSpec := { name := "fnExactZlibOf", vars := ["loop.example/g00099/impl.thirdOrder"], fn := fun _ => fun
  | [d1, d2, g1] => { results := [.lit (.bool true)], args := [d1, d2], vars := [g1] }
  | _ => none }
def fnExactZlibOfRow : OpenClaim := { program := "ytklpiihnbokkkaagreatdoor", sum := "92990bd0341f0c373e2fc25c7f12d6cb06e6fc88392a36f4ea93a8e59be9ec11", func := "loop.example/g00099/laws.FnExactZlibOf", spec := "fnExactZlibOf", unfollowed := true, recurses := true, named := ["loop.example/g00099/impl.thirdOrder"], plainKeys := false, apart := false, laid := [("loop.example/g00099/impl.thirdOrder", laid_loop_example_g00099_impl_thirdOrder)] }
def FnExactZlibOfSaid : Prop := fnExactZlibOfRow.holds Tryz.pinned (OpenSpec.ofChange fnExactZlibOfSpec)

/-- ITS FALSE NEIGHBOUR: 'it returns false'. Refute it at one input. -/
def fnExactZlibOfWrong : ChangeSpec := { name := "fnExactZlibOf", vars := ["loop.example/g00099/impl.thirdOrder"], fn := fun _ => fun
  | [d1, d2, g1] => { results := [.lit (.bool false)], args := [d1, d2], vars := [g1] }
  | _ => none }
def FnExactZlibOfWrongFalsely : Prop := fnExactZlibOfRow.holds Tryz.pinned (OpenSpec.ofChange fnExactZlibOfWrong)

/- THE SECOND FORM. 'bulk': how many values and letters a reading holds, each counted each time it is reached (what is shared counts as often as it is met; a slice's spare places count too). A statement '..UptoSaid' is the law's where the arguments, and the package variables that the reading takes, are together of bulk at most 1048576: NARROWER than '..Said'. Prove '..Said' where nothing that the law and all that it calls make is longer than what came in: it says more and counts as full. Else prove '..UptoSaid'. A law counts once. -/
mutual
def uptoBulk {H : Type} : DataW H → Nat
  | .lit (.string bytes) => bytes.length + 1
  | .lit _ => 1
  | .nil => 1
  | .ptr d => uptoBulk d + 1
  | .slice elems spare => uptoBulkAll elems + uptoBulkAll spare + 1
  | .agg parts => uptoBulkAll parts + 1
  | .iface _ d => uptoBulk d + 1
  | .map entries => uptoBulkEntries entries + 1
  | .held _ => 1
def uptoBulkAll {H : Type} : List (DataW H) → Nat
  | [] => 0
  | d :: r => uptoBulk d + uptoBulkAll r
def uptoBulkEntries {H : Type} : List (Lit × DataW H) → Nat
  | [] => 0
  | x :: r => uptoBulkEntry x + uptoBulkEntries r
def uptoBulkEntry {H : Type} : Lit × DataW H → Nat
  | (.string bytes, d) => bytes.length + uptoBulk d + 1
  | (_, d) => uptoBulk d + 1
 end
def uptoSmall : (H : Type) → List (DataW H) → Bool := fun _ ds => decide (uptoBulkAll ds ≤ 1048576)
def OpenSpec.upto (s : _root_.Go.ChangeSpec) : _root_.Go.OpenSpec := { _root_.Go.OpenSpec.ofChange s with cond := some uptoSmall }

/-- 'laws.FnCut', WHERE WHAT IT READS IS OF BULK AT MOST 1048576: true; the input reads as it did. -/
def fnCutUptoRow : OpenClaim := { program := "ytklpiihnbokkkaagreatdoor", sum := "92990bd0341f0c373e2fc25c7f12d6cb06e6fc88392a36f4ea93a8e59be9ec11", func := "loop.example/g00099/laws.FnCut", spec := "fnCut", inPlace := ["internal/reflectlite.ValueOf", "(internal/reflectlite.Value).Type", "(internal/reflectlite.Value).IsNil", "internal/reflectlite.TypeOf", "(internal/reflectlite.Value).Elem", "(internal/reflectlite.Value).Set"], unfollowed := true, recurses := true, named := ["loop.example/g00099/impl.thirdOrder", "errors.errorType"], plainKeys := false, apart := false, laid := [("errors.errorType", laid_errors_errorType), ("loop.example/g00099/impl.thirdOrder", laid_loop_example_g00099_impl_thirdOrder)], narrowed := true }
def FnCutUptoSaid : Prop := fnCutUptoRow.holds Tryz.pinned (OpenSpec.upto fnCutSpec)

/-- 'laws.FnZlib', WHERE WHAT IT READS IS OF BULK AT MOST 1048576: true; the input reads as it did. -/
def fnZlibUptoRow : OpenClaim := { program := "ytklpiihnbokkkaagreatdoor", sum := "92990bd0341f0c373e2fc25c7f12d6cb06e6fc88392a36f4ea93a8e59be9ec11", func := "loop.example/g00099/laws.FnZlib", spec := "fnZlib", inPlace := ["internal/reflectlite.ValueOf", "(internal/reflectlite.Value).Type", "(internal/reflectlite.Value).IsNil", "internal/reflectlite.TypeOf", "(internal/reflectlite.Value).Elem", "(internal/reflectlite.Value).Set"], unfollowed := true, recurses := true, named := ["loop.example/g00099/impl.thirdOrder", "errors.errorType"], plainKeys := false, apart := false, laid := [("errors.errorType", laid_errors_errorType), ("loop.example/g00099/impl.thirdOrder", laid_loop_example_g00099_impl_thirdOrder)], narrowed := true }
def FnZlibUptoSaid : Prop := fnZlibUptoRow.holds Tryz.pinned (OpenSpec.upto fnZlibSpec)

/-- 'laws.FnExactDeflate', WHERE WHAT IT READS IS OF BULK AT MOST 1048576: true; the input reads as it did. -/
def fnExactDeflateUptoRow : OpenClaim := { program := "ytklpiihnbokkkaagreatdoor", sum := "92990bd0341f0c373e2fc25c7f12d6cb06e6fc88392a36f4ea93a8e59be9ec11", func := "loop.example/g00099/laws.FnExactDeflate", spec := "fnExactDeflate", unfollowed := true, recurses := true, named := ["loop.example/g00099/impl.thirdOrder"], plainKeys := false, apart := false, laid := [("loop.example/g00099/impl.thirdOrder", laid_loop_example_g00099_impl_thirdOrder)], narrowed := true }
def FnExactDeflateUptoSaid : Prop := fnExactDeflateUptoRow.holds Tryz.pinned (OpenSpec.upto fnExactDeflateSpec)

/-- 'laws.FnExactZlibOf', WHERE WHAT IT READS IS OF BULK AT MOST 1048576: true; the input reads as it did. -/
def fnExactZlibOfUptoRow : OpenClaim := { program := "ytklpiihnbokkkaagreatdoor", sum := "92990bd0341f0c373e2fc25c7f12d6cb06e6fc88392a36f4ea93a8e59be9ec11", func := "loop.example/g00099/laws.FnExactZlibOf", spec := "fnExactZlibOf", unfollowed := true, recurses := true, named := ["loop.example/g00099/impl.thirdOrder"], plainKeys := false, apart := false, laid := [("loop.example/g00099/impl.thirdOrder", laid_loop_example_g00099_impl_thirdOrder)], narrowed := true }
def FnExactZlibOfUptoSaid : Prop := fnExactZlibOfUptoRow.holds Tryz.pinned (OpenSpec.upto fnExactZlibOfSpec)

end Rows
end Go.Proofs.YtklpiihnbokkkaaGreatDoor
