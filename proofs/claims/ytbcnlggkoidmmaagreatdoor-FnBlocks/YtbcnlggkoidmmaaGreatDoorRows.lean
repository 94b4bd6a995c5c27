/-
  NARROWER THAN 'FOR EVERY INPUT', by the rows' own cells (each row's printed sentence says how): FnBlocks: laid · FnBestBlock: laid · FnExactWovenBlock: laid.
  DERIVED. THE GIVEN ROWS OF THIS SEAT. 3 by the template 'for every input the law returns true; each argument reads behind the call as it read before'; 0 by the template 'total and deterministic' (their statements: YtbcnlggkoidmmaaGreatDoorTotals.lean).
  GIVEN WITH THE SEED: the statements are not yours to turn. If you find one false, say at which input.
  Laid BY PROGRAM, IN A SANDBOX (cutbox-rows.mjs): the forced cells as the released guide's own fill.sh prints them over the translation c9141d5ced17ad62… (all of the seat's roots in one cut). By AI agents, Wed Nov 11 2026. No macro, syntax, notation, axiom, sorry.
-/
import Derived.Test.YtbcnlggkoidmmaaGreatDoorChecked
import GoSem.Claim
import GoSem.ClaimJoined
import GoSem.ClaimMapViews
import Derived.JoinedTies
import Derived.KernelRfl
namespace Go.Proofs.YtbcnlggkoidmmaaGreatDoor
/- THE CELL 'sum', in the pinned program and in every row, IS THE sha256 OF THE DUMP (.gsa) THAT YtbcnlggkoidmmaaGreatDoorProg.lean LOADS. Nothing in Lean hashes anything: it is a label: what it is worth is what the hold of that sum in a sandbox is worth. -/
noncomputable def Tryz.pinned : Pinned := { name := "ytbcnlggkoidmmaagreatdoor", sum := "c9141d5ced17ad6241d145298623990fa0f864d660654a362ee05d968cabf337", checked := Tryz.checked }
namespace Rows
def none {H : Type} : Left H := { results := [], args := [] }

/- WHAT THE LISTED PACKAGE-LEVEL VARIABLES READ AS WHEN THE CALL BEGINS. Each datum BY PROGRAM (the guide's laid-datum.mjs) off the statement by which the dump's own 'gosem.cut.vars' lays the variable. In a bare row this is a premise. The card (YtbcnlggkoidmmaaGreatDoorCards.lean) ties it to the program's text. -/
def laid_errors_errorType {H : Type} : DataW H := .iface "internal/reflectlite.rtype" (.agg [.ptr (.lit (.string [101, 114, 114, 111, 114]))])
def laid_loop_example_g00099_impl_thirdOrder {H : Type} : DataW H := .agg [.lit (.int .i64 16), .lit (.int .i64 17), .lit (.int .i64 18), .lit (.int .i64 0), .lit (.int .i64 8), .lit (.int .i64 7), .lit (.int .i64 9), .lit (.int .i64 6), .lit (.int .i64 10), .lit (.int .i64 5), .lit (.int .i64 11), .lit (.int .i64 4), .lit (.int .i64 12), .lit (.int .i64 3), .lit (.int .i64 13), .lit (.int .i64 2), .lit (.int .i64 14), .lit (.int .i64 1), .lit (.int .i64 15)]

/-- 'laws.FnBlocks': WHATEVER THE INPUT: true; the input reads as it did. -/
def fnBlocksSpec : ChangeSpec := { name := "fnBlocks", vars := ["loop.example/g00099/impl.thirdOrder"], fn := fun _ => fun
  | [d, g1] => { results := [.lit (.bool true)], args := [d], vars := [g1] }
  | _ => none }
def fnBlocksRow : OpenClaim := { program := "ytbcnlggkoidmmaagreatdoor", sum := "c9141d5ced17ad6241d145298623990fa0f864d660654a362ee05d968cabf337", func := "loop.example/g00099/laws.FnBlocks", spec := "fnBlocks", inPlace := ["internal/reflectlite.ValueOf", "(internal/reflectlite.Value).Type", "(internal/reflectlite.Value).IsNil", "internal/reflectlite.TypeOf", "(internal/reflectlite.Value).Elem", "(internal/reflectlite.Value).Set"], unfollowed := true, recurses := true, named := ["loop.example/g00099/impl.thirdOrder", "errors.errorType"], apart := false, laid := [("errors.errorType", laid_errors_errorType), ("loop.example/g00099/impl.thirdOrder", laid_loop_example_g00099_impl_thirdOrder)] }
def FnBlocksSaid : Prop := fnBlocksRow.holds Tryz.pinned (OpenSpec.ofChange fnBlocksSpec)

/-- ITS FALSE NEIGHBOUR: 'it returns false'. Refute it at one input. -/
def fnBlocksWrong : ChangeSpec := { name := "fnBlocks", vars := ["loop.example/g00099/impl.thirdOrder"], fn := fun _ => fun
  | [d, g1] => { results := [.lit (.bool false)], args := [d], vars := [g1] }
  | _ => none }
def FnBlocksWrongFalsely : Prop := fnBlocksRow.holds Tryz.pinned (OpenSpec.ofChange fnBlocksWrong)

/-- 'laws.FnBestBlock': WHATEVER THE INPUT: true; the input reads as it did. -/
def fnBestBlockSpec : ChangeSpec := { name := "fnBestBlock", vars := ["loop.example/g00099/impl.thirdOrder"], fn := fun _ => fun
  | [d, g1] => { results := [.lit (.bool true)], args := [d], vars := [g1] }
  | _ => none }
def fnBestBlockRow : OpenClaim := { program := "ytbcnlggkoidmmaagreatdoor", sum := "c9141d5ced17ad6241d145298623990fa0f864d660654a362ee05d968cabf337", func := "loop.example/g00099/laws.FnBestBlock", spec := "fnBestBlock", unfollowed := true, recurses := true, named := ["loop.example/g00099/impl.thirdOrder"], apart := false, laid := [("loop.example/g00099/impl.thirdOrder", laid_loop_example_g00099_impl_thirdOrder)] }
def FnBestBlockSaid : Prop := fnBestBlockRow.holds Tryz.pinned (OpenSpec.ofChange fnBestBlockSpec)

/-- ITS FALSE NEIGHBOUR: 'it returns false'. Refute it at one input. -/
def fnBestBlockWrong : ChangeSpec := { name := "fnBestBlock", vars := ["loop.example/g00099/impl.thirdOrder"], fn := fun _ => fun
  | [d, g1] => { results := [.lit (.bool false)], args := [d], vars := [g1] }
  | _ => none }
def FnBestBlockWrongFalsely : Prop := fnBestBlockRow.holds Tryz.pinned (OpenSpec.ofChange fnBestBlockWrong)

/-- 'laws.FnExactWovenBlock': WHATEVER THE INPUT: true; the input reads as it did. -/
def fnExactWovenBlockSpec : ChangeSpec := { name := "fnExactWovenBlock", vars := ["loop.example/g00099/impl.thirdOrder"], fn := fun _ => fun
  | [d1, d2, d3, g1] => { results := [.lit (.bool true)], args := [d1, d2, d3], vars := [g1] }
  | _ => none }
def fnExactWovenBlockRow : OpenClaim := { program := "ytbcnlggkoidmmaagreatdoor", sum := "c9141d5ced17ad6241d145298623990fa0f864d660654a362ee05d968cabf337", func := "loop.example/g00099/laws.FnExactWovenBlock", spec := "fnExactWovenBlock", unfollowed := true, recurses := true, named := ["loop.example/g00099/impl.thirdOrder"], apart := false, laid := [("loop.example/g00099/impl.thirdOrder", laid_loop_example_g00099_impl_thirdOrder)] }
def FnExactWovenBlockSaid : Prop := fnExactWovenBlockRow.holds Tryz.pinned (OpenSpec.ofChange fnExactWovenBlockSpec)

/-- ITS FALSE NEIGHBOUR: 'it returns false'. Refute it at one input. -/
def fnExactWovenBlockWrong : ChangeSpec := { name := "fnExactWovenBlock", vars := ["loop.example/g00099/impl.thirdOrder"], fn := fun _ => fun
  | [d1, d2, d3, g1] => { results := [.lit (.bool false)], args := [d1, d2, d3], vars := [g1] }
  | _ => none }
def FnExactWovenBlockWrongFalsely : Prop := fnExactWovenBlockRow.holds Tryz.pinned (OpenSpec.ofChange fnExactWovenBlockWrong)

/- THE SECOND FORM. 'bulk': how many values and letters a reading holds, each counted each time it is reached (what is shared counts as often as it is met; a slice's spare places count too). A statement '..UptoSaid' is the law's where the arguments, and the package variables that the reading takes, are together of bulk at most 1048576: NARROWER than '..Said'. Prove '..Said' where nothing that the law and all that it calls make is longer than what came in: it says more and counts as full. Else prove '..UptoSaid'. A law counts once. -/
mutual
def uptoBulk {H : Type} : DataW H → Nat
  | .lit (.string bytes) => bytes.length + 1
  | .lit _ => 1
  | .nil => 1
  | .ptr d => uptoBulk d + 1
  | .slice elems spare => uptoBulkAll elems + uptoBulkAll spare + 1
  | .agg parts => uptoBulkAll parts + 1
  | .iface _ d => uptoBulk d + 1
  | .map entries => uptoBulkEntries entries + 1
  | .held _ => 1
def uptoBulkAll {H : Type} : List (DataW H) → Nat
  | [] => 0
  | d :: r => uptoBulk d + uptoBulkAll r
def uptoBulkEntries {H : Type} : List (Lit × DataW H) → Nat
  | [] => 0
  | x :: r => uptoBulkEntry x + uptoBulkEntries r
def uptoBulkEntry {H : Type} : Lit × DataW H → Nat
  | (.string bytes, d) => bytes.length + uptoBulk d + 1
  | (_, d) => uptoBulk d + 1
 end
def uptoSmall : (H : Type) → List (DataW H) → Bool := fun _ ds => decide (uptoBulkAll ds ≤ 1048576)
def OpenSpec.upto (s : _root_.Go.ChangeSpec) : _root_.Go.OpenSpec := { _root_.Go.OpenSpec.ofChange s with cond := some uptoSmall }

/-- 'laws.FnBlocks', WHERE WHAT IT READS IS OF BULK AT MOST 1048576: true; the input reads as it did. -/
def fnBlocksUptoRow : OpenClaim := { program := "ytbcnlggkoidmmaagreatdoor", sum := "c9141d5ced17ad6241d145298623990fa0f864d660654a362ee05d968cabf337", func := "loop.example/g00099/laws.FnBlocks", spec := "fnBlocks", inPlace := ["internal/reflectlite.ValueOf", "(internal/reflectlite.Value).Type", "(internal/reflectlite.Value).IsNil", "internal/reflectlite.TypeOf", "(internal/reflectlite.Value).Elem", "(internal/reflectlite.Value).Set"], unfollowed := true, recurses := true, named := ["loop.example/g00099/impl.thirdOrder", "errors.errorType"], apart := false, laid := [("errors.errorType", laid_errors_errorType), ("loop.example/g00099/impl.thirdOrder", laid_loop_example_g00099_impl_thirdOrder)], narrowed := true }
def FnBlocksUptoSaid : Prop := fnBlocksUptoRow.holds Tryz.pinned (OpenSpec.upto fnBlocksSpec)

/-- 'laws.FnBestBlock', WHERE WHAT IT READS IS OF BULK AT MOST 1048576: true; the input reads as it did. -/
def fnBestBlockUptoRow : OpenClaim := { program := "ytbcnlggkoidmmaagreatdoor", sum := "c9141d5ced17ad6241d145298623990fa0f864d660654a362ee05d968cabf337", func := "loop.example/g00099/laws.FnBestBlock", spec := "fnBestBlock", unfollowed := true, recurses := true, named := ["loop.example/g00099/impl.thirdOrder"], apart := false, laid := [("loop.example/g00099/impl.thirdOrder", laid_loop_example_g00099_impl_thirdOrder)], narrowed := true }
def FnBestBlockUptoSaid : Prop := fnBestBlockUptoRow.holds Tryz.pinned (OpenSpec.upto fnBestBlockSpec)

/-- 'laws.FnExactWovenBlock', WHERE WHAT IT READS IS OF BULK AT MOST 1048576: true; the input reads as it did. -/
def fnExactWovenBlockUptoRow : OpenClaim := { program := "ytbcnlggkoidmmaagreatdoor", sum := "c9141d5ced17ad6241d145298623990fa0f864d660654a362ee05d968cabf337", func := "loop.example/g00099/laws.FnExactWovenBlock", spec := "fnExactWovenBlock", unfollowed := true, recurses := true, named := ["loop.example/g00099/impl.thirdOrder"], apart := false, laid := [("loop.example/g00099/impl.thirdOrder", laid_loop_example_g00099_impl_thirdOrder)], narrowed := true }
def FnExactWovenBlockUptoSaid : Prop := fnExactWovenBlockUptoRow.holds Tryz.pinned (OpenSpec.upto fnExactWovenBlockSpec)

end Rows
end Go.Proofs.YtbcnlggkoidmmaaGreatDoor
