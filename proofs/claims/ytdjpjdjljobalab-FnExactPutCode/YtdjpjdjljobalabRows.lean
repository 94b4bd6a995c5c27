/-
  No cell of these rows narrows 'for every input' (looked for: loops, veiled, ifaces, maps, wideKeys, modest, calm, conditions, laid).
  DERIVED. THE GIVEN ROWS OF THIS SEAT. 4 by the template 'for every input the law returns true; each argument reads behind the call as it read before'; 0 by the template 'total and deterministic' (their statements: YtdjpjdjljobalabTotals.lean).
  GIVEN WITH THE SEED: the statements are not yours to turn. If you find one false, say at which input.
  Laid BY PROGRAM, IN A SANDBOX (cutbox-rows.mjs): the forced cells as the released guide's own fill.sh prints them over the translation fbd2616565d3da7f… (all of the seat's roots in one cut). By AI agents, Wed Nov 11 2026. No macro, syntax, notation, axiom, sorry.
-/
import Derived.Test.YtdjpjdjljobalabChecked
import GoSem.Claim
import GoSem.ClaimJoined
import GoSem.ClaimMapViews
import Derived.JoinedTies
import Derived.KernelRfl
namespace Go.Proofs.Ytdjpjdjljobalab
/- THE CELL 'sum', in the pinned program and in every row, IS THE sha256 OF THE DUMP (.gsa) THAT YtdjpjdjljobalabProg.lean LOADS. Nothing in Lean hashes anything: it is a label: what it is worth is what the hold of that sum in a sandbox is worth. -/
noncomputable def Try.pinned : Pinned := { name := "ytdjpjdjljobalab", sum := "fbd2616565d3da7fd4e0fc24407f31149cbfb78ed5a3a45297a2b8a48b156f11", checked := Try.checked }
namespace Rows
def none {H : Type} : Left H := { results := [], args := [] }

/-- 'laws.FnExactPutCode': WHATEVER THE INPUT: true; the input reads as it did. -/
def fnExactPutCodeSpec : ChangeSpec := { name := "fnExactPutCode", fn := fun _ => fun
  | [d1, d2, d3] => { results := [.lit (.bool true)], args := [d1, d2, d3] }
  | _ => none }
def fnExactPutCodeRow : OpenClaim := { program := "ytdjpjdjljobalab", sum := "fbd2616565d3da7fd4e0fc24407f31149cbfb78ed5a3a45297a2b8a48b156f11", func := "loop.example/g00099/laws.FnExactPutCode", spec := "fnExactPutCode", apart := false }
def FnExactPutCodeSaid : Prop := fnExactPutCodeRow.holds Try.pinned (OpenSpec.ofChange fnExactPutCodeSpec)

/-- ITS FALSE NEIGHBOUR: 'it returns false'. Refute it at one input. -/
def fnExactPutCodeWrong : ChangeSpec := { name := "fnExactPutCode", fn := fun _ => fun
  | [d1, d2, d3] => { results := [.lit (.bool false)], args := [d1, d2, d3] }
  | _ => none }
def FnExactPutCodeWrongFalsely : Prop := fnExactPutCodeRow.holds Try.pinned (OpenSpec.ofChange fnExactPutCodeWrong)

/-- 'laws.FnExactFillByte': WHATEVER THE INPUT: true; the input reads as it did. -/
def fnExactFillByteSpec : ChangeSpec := { name := "fnExactFillByte", fn := fun _ => fun
  | [d] => { results := [.lit (.bool true)], args := [d] }
  | _ => none }
def fnExactFillByteRow : OpenClaim := { program := "ytdjpjdjljobalab", sum := "fbd2616565d3da7fd4e0fc24407f31149cbfb78ed5a3a45297a2b8a48b156f11", func := "loop.example/g00099/laws.FnExactFillByte", spec := "fnExactFillByte", apart := false }
def FnExactFillByteSaid : Prop := fnExactFillByteRow.holds Try.pinned (OpenSpec.ofChange fnExactFillByteSpec)

/-- ITS FALSE NEIGHBOUR: 'it returns false'. Refute it at one input. -/
def fnExactFillByteWrong : ChangeSpec := { name := "fnExactFillByte", fn := fun _ => fun
  | [d] => { results := [.lit (.bool false)], args := [d] }
  | _ => none }
def FnExactFillByteWrongFalsely : Prop := fnExactFillByteRow.holds Try.pinned (OpenSpec.ofChange fnExactFillByteWrong)

/-- 'laws.FnExactBigText': WHATEVER THE INPUT: true; the input reads as it did. -/
def fnExactBigTextSpec : ChangeSpec := { name := "fnExactBigText", fn := fun _ => fun
  | [d1, d2] => { results := [.lit (.bool true)], args := [d1, d2] }
  | _ => none }
def fnExactBigTextRow : OpenClaim := { program := "ytdjpjdjljobalab", sum := "fbd2616565d3da7fd4e0fc24407f31149cbfb78ed5a3a45297a2b8a48b156f11", func := "loop.example/g00099/laws.FnExactBigText", spec := "fnExactBigText", apart := false }
def FnExactBigTextSaid : Prop := fnExactBigTextRow.holds Try.pinned (OpenSpec.ofChange fnExactBigTextSpec)

/-- ITS FALSE NEIGHBOUR: 'it returns false'. Refute it at one input. -/
def fnExactBigTextWrong : ChangeSpec := { name := "fnExactBigText", fn := fun _ => fun
  | [d1, d2] => { results := [.lit (.bool false)], args := [d1, d2] }
  | _ => none }
def FnExactBigTextWrongFalsely : Prop := fnExactBigTextRow.holds Try.pinned (OpenSpec.ofChange fnExactBigTextWrong)

/-- 'laws.FnExactReadBig': WHATEVER THE INPUT: true; the input reads as it did. -/
def fnExactReadBigSpec : ChangeSpec := { name := "fnExactReadBig", fn := fun _ => fun
  | [d1, d2, d3] => { results := [.lit (.bool true)], args := [d1, d2, d3] }
  | _ => none }
def fnExactReadBigRow : OpenClaim := { program := "ytdjpjdjljobalab", sum := "fbd2616565d3da7fd4e0fc24407f31149cbfb78ed5a3a45297a2b8a48b156f11", func := "loop.example/g00099/laws.FnExactReadBig", spec := "fnExactReadBig", apart := false }
def FnExactReadBigSaid : Prop := fnExactReadBigRow.holds Try.pinned (OpenSpec.ofChange fnExactReadBigSpec)

/-- ITS FALSE NEIGHBOUR: 'it returns false'. Refute it at one input. -/
def fnExactReadBigWrong : ChangeSpec := { name := "fnExactReadBig", fn := fun _ => fun
  | [d1, d2, d3] => { results := [.lit (.bool false)], args := [d1, d2, d3] }
  | _ => none }
def FnExactReadBigWrongFalsely : Prop := fnExactReadBigRow.holds Try.pinned (OpenSpec.ofChange fnExactReadBigWrong)

/- THE SECOND FORM. 'bulk': how many values and letters a reading holds, each counted each time it is reached (what is shared counts as often as it is met; a slice's spare places count too). A statement '..UptoSaid' is the law's where the arguments, and the package variables that the reading takes, are together of bulk at most 1048576: NARROWER than '..Said'. Prove '..Said' where nothing that the law and all that it calls make is longer than what came in: it says more and counts as full. Else prove '..UptoSaid'. A law counts once. -/
mutual
def uptoBulk {H : Type} : DataW H → Nat
  | .lit (.string bytes) => bytes.length + 1
  | .lit _ => 1
  | .nil => 1
  | .ptr d => uptoBulk d + 1
  | .slice elems spare => uptoBulkAll elems + uptoBulkAll spare + 1
  | .agg parts => uptoBulkAll parts + 1
  | .iface _ d => uptoBulk d + 1
  | .map entries => uptoBulkEntries entries + 1
  | .held _ => 1
def uptoBulkAll {H : Type} : List (DataW H) → Nat
  | [] => 0
  | d :: r => uptoBulk d + uptoBulkAll r
def uptoBulkEntries {H : Type} : List (Lit × DataW H) → Nat
  | [] => 0
  | x :: r => uptoBulkEntry x + uptoBulkEntries r
def uptoBulkEntry {H : Type} : Lit × DataW H → Nat
  | (.string bytes, d) => bytes.length + uptoBulk d + 1
  | (_, d) => uptoBulk d + 1
 end
def uptoSmall : (H : Type) → List (DataW H) → Bool := fun _ ds => decide (uptoBulkAll ds ≤ 1048576)
def OpenSpec.upto (s : _root_.Go.ChangeSpec) : _root_.Go.OpenSpec := { _root_.Go.OpenSpec.ofChange s with cond := some uptoSmall }

/-- 'laws.FnExactPutCode', WHERE WHAT IT READS IS OF BULK AT MOST 1048576: true; the input reads as it did. -/
def fnExactPutCodeUptoRow : OpenClaim := { program := "ytdjpjdjljobalab", sum := "fbd2616565d3da7fd4e0fc24407f31149cbfb78ed5a3a45297a2b8a48b156f11", func := "loop.example/g00099/laws.FnExactPutCode", spec := "fnExactPutCode", apart := false, narrowed := true }
def FnExactPutCodeUptoSaid : Prop := fnExactPutCodeUptoRow.holds Try.pinned (OpenSpec.upto fnExactPutCodeSpec)

/-- 'laws.FnExactFillByte', WHERE WHAT IT READS IS OF BULK AT MOST 1048576: true; the input reads as it did. -/
def fnExactFillByteUptoRow : OpenClaim := { program := "ytdjpjdjljobalab", sum := "fbd2616565d3da7fd4e0fc24407f31149cbfb78ed5a3a45297a2b8a48b156f11", func := "loop.example/g00099/laws.FnExactFillByte", spec := "fnExactFillByte", apart := false, narrowed := true }
def FnExactFillByteUptoSaid : Prop := fnExactFillByteUptoRow.holds Try.pinned (OpenSpec.upto fnExactFillByteSpec)

/-- 'laws.FnExactBigText', WHERE WHAT IT READS IS OF BULK AT MOST 1048576: true; the input reads as it did. -/
def fnExactBigTextUptoRow : OpenClaim := { program := "ytdjpjdjljobalab", sum := "fbd2616565d3da7fd4e0fc24407f31149cbfb78ed5a3a45297a2b8a48b156f11", func := "loop.example/g00099/laws.FnExactBigText", spec := "fnExactBigText", apart := false, narrowed := true }
def FnExactBigTextUptoSaid : Prop := fnExactBigTextUptoRow.holds Try.pinned (OpenSpec.upto fnExactBigTextSpec)

/-- 'laws.FnExactReadBig', WHERE WHAT IT READS IS OF BULK AT MOST 1048576: true; the input reads as it did. -/
def fnExactReadBigUptoRow : OpenClaim := { program := "ytdjpjdjljobalab", sum := "fbd2616565d3da7fd4e0fc24407f31149cbfb78ed5a3a45297a2b8a48b156f11", func := "loop.example/g00099/laws.FnExactReadBig", spec := "fnExactReadBig", apart := false, narrowed := true }
def FnExactReadBigUptoSaid : Prop := fnExactReadBigUptoRow.holds Try.pinned (OpenSpec.upto fnExactReadBigSpec)

end Rows
end Go.Proofs.Ytdjpjdjljobalab
