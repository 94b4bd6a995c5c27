/-
  No cell of these rows narrows 'for every input' (looked for: loops, veiled, ifaces, maps, wideKeys, modest, calm, conditions, laid).
  DERIVED. THE GIVEN ROWS OF THIS SEAT. 2 by the template 'for every input the law returns true; each argument reads behind the call as it read before'; 0 by the template 'total and deterministic' (their statements: YtcieladecjlnpabTotals.lean).
  GIVEN WITH THE SEED: the statements are not yours to turn. If you find one false, say at which input.
  Laid BY PROGRAM, IN A SANDBOX (cutbox-rows.mjs): the forced cells as the released guide's own fill.sh prints them over the translation 707e7e035ab98980… (all of the seat's roots in one cut). By AI agents, Wed Nov 11 2026. No macro, syntax, notation, axiom, sorry.
-/
import Derived.Test.YtcieladecjlnpabChecked
import GoSem.Claim
import GoSem.ClaimJoined
import GoSem.ClaimMapViews
import Derived.JoinedTies
import Derived.KernelRfl
namespace Go.Proofs.Ytcieladecjlnpab
/- THE CELL 'sum', in the pinned program and in every row, IS THE sha256 OF THE DUMP (.gsa) THAT YtcieladecjlnpabProg.lean LOADS. Nothing in Lean hashes anything: it is a label: what it is worth is what the hold of that sum in a sandbox is worth. -/
noncomputable def Try.pinned : Pinned := { name := "ytcieladecjlnpab", sum := "707e7e035ab98980443ebfe13a05d4624315d8cd21f29973de4b1f2909b1f79f", checked := Try.checked }
namespace Rows
def none {H : Type} : Left H := { results := [], args := [] }

/-- 'laws.FnExactDistCode': WHATEVER THE INPUT: true; the input reads as it did. -/
def fnExactDistCodeSpec : ChangeSpec := { name := "fnExactDistCode", fn := fun _ => fun
  | [d] => { results := [.lit (.bool true)], args := [d] }
  | _ => none }
def fnExactDistCodeRow : OpenClaim := { program := "ytcieladecjlnpab", sum := "707e7e035ab98980443ebfe13a05d4624315d8cd21f29973de4b1f2909b1f79f", func := "loop.example/g00099/laws.FnExactDistCode", spec := "fnExactDistCode", apart := false }
def FnExactDistCodeSaid : Prop := fnExactDistCodeRow.holds Try.pinned (OpenSpec.ofChange fnExactDistCodeSpec)

/-- ITS FALSE NEIGHBOUR: 'it returns false'. Refute it at one input. -/
def fnExactDistCodeWrong : ChangeSpec := { name := "fnExactDistCode", fn := fun _ => fun
  | [d] => { results := [.lit (.bool false)], args := [d] }
  | _ => none }
def FnExactDistCodeWrongFalsely : Prop := fnExactDistCodeRow.holds Try.pinned (OpenSpec.ofChange fnExactDistCodeWrong)

/-- 'laws.FnExactDistOf': WHATEVER THE INPUT: true; the input reads as it did. -/
def fnExactDistOfSpec : ChangeSpec := { name := "fnExactDistOf", fn := fun _ => fun
  | [d1, d2] => { results := [.lit (.bool true)], args := [d1, d2] }
  | _ => none }
def fnExactDistOfRow : OpenClaim := { program := "ytcieladecjlnpab", sum := "707e7e035ab98980443ebfe13a05d4624315d8cd21f29973de4b1f2909b1f79f", func := "loop.example/g00099/laws.FnExactDistOf", spec := "fnExactDistOf", apart := false }
def FnExactDistOfSaid : Prop := fnExactDistOfRow.holds Try.pinned (OpenSpec.ofChange fnExactDistOfSpec)

/-- ITS FALSE NEIGHBOUR: 'it returns false'. Refute it at one input. -/
def fnExactDistOfWrong : ChangeSpec := { name := "fnExactDistOf", fn := fun _ => fun
  | [d1, d2] => { results := [.lit (.bool false)], args := [d1, d2] }
  | _ => none }
def FnExactDistOfWrongFalsely : Prop := fnExactDistOfRow.holds Try.pinned (OpenSpec.ofChange fnExactDistOfWrong)

/- THE SECOND FORM. 'bulk': how many values and letters a reading holds, each counted each time it is reached (what is shared counts as often as it is met; a slice's spare places count too). A statement '..UptoSaid' is the law's where the arguments, and the package variables that the reading takes, are together of bulk at most 1048576: NARROWER than '..Said'. Prove '..Said' where nothing that the law and all that it calls make is longer than what came in: it says more and counts as full. Else prove '..UptoSaid'. A law counts once. -/
mutual
def uptoBulk {H : Type} : DataW H → Nat
  | .lit (.string bytes) => bytes.length + 1
  | .lit _ => 1
  | .nil => 1
  | .ptr d => uptoBulk d + 1
  | .slice elems spare => uptoBulkAll elems + uptoBulkAll spare + 1
  | .agg parts => uptoBulkAll parts + 1
  | .iface _ d => uptoBulk d + 1
  | .map entries => uptoBulkEntries entries + 1
  | .held _ => 1
def uptoBulkAll {H : Type} : List (DataW H) → Nat
  | [] => 0
  | d :: r => uptoBulk d + uptoBulkAll r
def uptoBulkEntries {H : Type} : List (Lit × DataW H) → Nat
  | [] => 0
  | x :: r => uptoBulkEntry x + uptoBulkEntries r
def uptoBulkEntry {H : Type} : Lit × DataW H → Nat
  | (.string bytes, d) => bytes.length + uptoBulk d + 1
  | (_, d) => uptoBulk d + 1
 end
def uptoSmall : (H : Type) → List (DataW H) → Bool := fun _ ds => decide (uptoBulkAll ds ≤ 1048576)
def OpenSpec.upto (s : _root_.Go.ChangeSpec) : _root_.Go.OpenSpec := { _root_.Go.OpenSpec.ofChange s with cond := some uptoSmall }

/-- 'laws.FnExactDistCode', WHERE WHAT IT READS IS OF BULK AT MOST 1048576: true; the input reads as it did. -/
def fnExactDistCodeUptoRow : OpenClaim := { program := "ytcieladecjlnpab", sum := "707e7e035ab98980443ebfe13a05d4624315d8cd21f29973de4b1f2909b1f79f", func := "loop.example/g00099/laws.FnExactDistCode", spec := "fnExactDistCode", apart := false, narrowed := true }
def FnExactDistCodeUptoSaid : Prop := fnExactDistCodeUptoRow.holds Try.pinned (OpenSpec.upto fnExactDistCodeSpec)

/-- 'laws.FnExactDistOf', WHERE WHAT IT READS IS OF BULK AT MOST 1048576: true; the input reads as it did. -/
def fnExactDistOfUptoRow : OpenClaim := { program := "ytcieladecjlnpab", sum := "707e7e035ab98980443ebfe13a05d4624315d8cd21f29973de4b1f2909b1f79f", func := "loop.example/g00099/laws.FnExactDistOf", spec := "fnExactDistOf", apart := false, narrowed := true }
def FnExactDistOfUptoSaid : Prop := fnExactDistOfUptoRow.holds Try.pinned (OpenSpec.upto fnExactDistOfSpec)

end Rows
end Go.Proofs.Ytcieladecjlnpab
