/-
  No cell of these rows narrows 'for every input' (looked for: loops, veiled, ifaces, maps, wideKeys, modest, calm, conditions, laid).
  DERIVED. THE GIVEN ROWS OF THIS SEAT. 6 by the template 'for every input the law returns true; each argument reads behind the call as it read before'; 0 by the template 'total and deterministic' (their statements: YtofblofmejgipaaTotals.lean).
  GIVEN WITH THE SEED: the statements are not yours to turn. If you find one false, say at which input.
  Laid BY PROGRAM, IN A SANDBOX (cutbox-rows.mjs): the forced cells as the released guide's own fill.sh prints them over the translation e94d9e61667377fe… (all of the seat's roots in one cut). By AI agents, Wed Nov 11 2026. No macro, syntax, notation, axiom, sorry.
-/
import Derived.Test.YtofblofmejgipaaChecked
import GoSem.Claim
import GoSem.ClaimJoined
import GoSem.ClaimMapViews
import Derived.JoinedTies
import Derived.KernelRfl
namespace Go.Proofs.Ytofblofmejgipaa
/- THE CELL 'sum', in the pinned program and in every row, IS THE sha256 OF THE DUMP (.gsa) THAT YtofblofmejgipaaProg.lean LOADS. Nothing in Lean hashes anything: it is a label: what it is worth is what the hold of that sum in a sandbox is worth. -/
noncomputable def Try.pinned : Pinned := { name := "ytofblofmejgipaa", sum := "e94d9e61667377fea4834a32cffc7c859fd6ecce70efeb226ab318306beec1c7", checked := Try.checked }
namespace Rows
def none {H : Type} : Left H := { results := [], args := [] }

/-- 'laws.FnChunks': WHATEVER THE INPUT: true; the input reads as it did. -/
def fnChunksSpec : ChangeSpec := { name := "fnChunks", fn := fun _ => fun
  | [d] => { results := [.lit (.bool true)], args := [d] }
  | _ => none }
def fnChunksRow : OpenClaim := { program := "ytofblofmejgipaa", sum := "e94d9e61667377fea4834a32cffc7c859fd6ecce70efeb226ab318306beec1c7", func := "loop.example/g00099/laws.FnChunks", spec := "fnChunks", leaving := true, apart := false }
def FnChunksSaid : Prop := fnChunksRow.holds Try.pinned (OpenSpec.ofChange fnChunksSpec)

/-- ITS FALSE NEIGHBOUR: 'it returns false'. Refute it at one input. -/
def fnChunksWrong : ChangeSpec := { name := "fnChunks", fn := fun _ => fun
  | [d] => { results := [.lit (.bool false)], args := [d] }
  | _ => none }
def FnChunksWrongFalsely : Prop := fnChunksRow.holds Try.pinned (OpenSpec.ofChange fnChunksWrong)

/-- 'laws.FnOneChunk': WHATEVER THE INPUT: true; the input reads as it did. -/
def fnOneChunkSpec : ChangeSpec := { name := "fnOneChunk", fn := fun _ => fun
  | [d] => { results := [.lit (.bool true)], args := [d] }
  | _ => none }
def fnOneChunkRow : OpenClaim := { program := "ytofblofmejgipaa", sum := "e94d9e61667377fea4834a32cffc7c859fd6ecce70efeb226ab318306beec1c7", func := "loop.example/g00099/laws.FnOneChunk", spec := "fnOneChunk", leaving := true, apart := false }
def FnOneChunkSaid : Prop := fnOneChunkRow.holds Try.pinned (OpenSpec.ofChange fnOneChunkSpec)

/-- ITS FALSE NEIGHBOUR: 'it returns false'. Refute it at one input. -/
def fnOneChunkWrong : ChangeSpec := { name := "fnOneChunk", fn := fun _ => fun
  | [d] => { results := [.lit (.bool false)], args := [d] }
  | _ => none }
def FnOneChunkWrongFalsely : Prop := fnOneChunkRow.holds Try.pinned (OpenSpec.ofChange fnOneChunkWrong)

/-- 'laws.FnExactNameOk': WHATEVER THE INPUT: true; the input reads as it did. -/
def fnExactNameOkSpec : ChangeSpec := { name := "fnExactNameOk", fn := fun _ => fun
  | [d] => { results := [.lit (.bool true)], args := [d] }
  | _ => none }
def fnExactNameOkRow : OpenClaim := { program := "ytofblofmejgipaa", sum := "e94d9e61667377fea4834a32cffc7c859fd6ecce70efeb226ab318306beec1c7", func := "loop.example/g00099/laws.FnExactNameOk", spec := "fnExactNameOk", apart := false }
def FnExactNameOkSaid : Prop := fnExactNameOkRow.holds Try.pinned (OpenSpec.ofChange fnExactNameOkSpec)

/-- ITS FALSE NEIGHBOUR: 'it returns false'. Refute it at one input. -/
def fnExactNameOkWrong : ChangeSpec := { name := "fnExactNameOk", fn := fun _ => fun
  | [d] => { results := [.lit (.bool false)], args := [d] }
  | _ => none }
def FnExactNameOkWrongFalsely : Prop := fnExactNameOkRow.holds Try.pinned (OpenSpec.ofChange fnExactNameOkWrong)

/-- 'laws.FnExactNeedless': WHATEVER THE INPUT: true; the input reads as it did. -/
def fnExactNeedlessSpec : ChangeSpec := { name := "fnExactNeedless", fn := fun _ => fun
  | [d] => { results := [.lit (.bool true)], args := [d] }
  | _ => none }
def fnExactNeedlessRow : OpenClaim := { program := "ytofblofmejgipaa", sum := "e94d9e61667377fea4834a32cffc7c859fd6ecce70efeb226ab318306beec1c7", func := "loop.example/g00099/laws.FnExactNeedless", spec := "fnExactNeedless", apart := false }
def FnExactNeedlessSaid : Prop := fnExactNeedlessRow.holds Try.pinned (OpenSpec.ofChange fnExactNeedlessSpec)

/-- ITS FALSE NEIGHBOUR: 'it returns false'. Refute it at one input. -/
def fnExactNeedlessWrong : ChangeSpec := { name := "fnExactNeedless", fn := fun _ => fun
  | [d] => { results := [.lit (.bool false)], args := [d] }
  | _ => none }
def FnExactNeedlessWrongFalsely : Prop := fnExactNeedlessRow.holds Try.pinned (OpenSpec.ofChange fnExactNeedlessWrong)

/-- 'laws.FnExactSafeToCopy': WHATEVER THE INPUT: true; the input reads as it did. -/
def fnExactSafeToCopySpec : ChangeSpec := { name := "fnExactSafeToCopy", fn := fun _ => fun
  | [d] => { results := [.lit (.bool true)], args := [d] }
  | _ => none }
def fnExactSafeToCopyRow : OpenClaim := { program := "ytofblofmejgipaa", sum := "e94d9e61667377fea4834a32cffc7c859fd6ecce70efeb226ab318306beec1c7", func := "loop.example/g00099/laws.FnExactSafeToCopy", spec := "fnExactSafeToCopy", apart := false }
def FnExactSafeToCopySaid : Prop := fnExactSafeToCopyRow.holds Try.pinned (OpenSpec.ofChange fnExactSafeToCopySpec)

/-- ITS FALSE NEIGHBOUR: 'it returns false'. Refute it at one input. -/
def fnExactSafeToCopyWrong : ChangeSpec := { name := "fnExactSafeToCopy", fn := fun _ => fun
  | [d] => { results := [.lit (.bool false)], args := [d] }
  | _ => none }
def FnExactSafeToCopyWrongFalsely : Prop := fnExactSafeToCopyRow.holds Try.pinned (OpenSpec.ofChange fnExactSafeToCopyWrong)

/-- 'laws.FnExactChunksText': WHATEVER THE INPUT: true; the input reads as it did. -/
def fnExactChunksTextSpec : ChangeSpec := { name := "fnExactChunksText", fn := fun _ => fun
  | [d] => { results := [.lit (.bool true)], args := [d] }
  | _ => none }
def fnExactChunksTextRow : OpenClaim := { program := "ytofblofmejgipaa", sum := "e94d9e61667377fea4834a32cffc7c859fd6ecce70efeb226ab318306beec1c7", func := "loop.example/g00099/laws.FnExactChunksText", spec := "fnExactChunksText", apart := false }
def FnExactChunksTextSaid : Prop := fnExactChunksTextRow.holds Try.pinned (OpenSpec.ofChange fnExactChunksTextSpec)

/-- ITS FALSE NEIGHBOUR: 'it returns false'. Refute it at one input. -/
def fnExactChunksTextWrong : ChangeSpec := { name := "fnExactChunksText", fn := fun _ => fun
  | [d] => { results := [.lit (.bool false)], args := [d] }
  | _ => none }
def FnExactChunksTextWrongFalsely : Prop := fnExactChunksTextRow.holds Try.pinned (OpenSpec.ofChange fnExactChunksTextWrong)

/- THE SECOND FORM. 'bulk': how many values and letters a reading holds, each counted each time it is reached (what is shared counts as often as it is met; a slice's spare places count too). A statement '..UptoSaid' is the law's where the arguments, and the package variables that the reading takes, are together of bulk at most 1048576: NARROWER than '..Said'. Prove '..Said' where nothing that the law and all that it calls make is longer than what came in: it says more and counts as full. Else prove '..UptoSaid'. A law counts once. -/
mutual
def uptoBulk {H : Type} : DataW H → Nat
  | .lit (.string bytes) => bytes.length + 1
  | .lit _ => 1
  | .nil => 1
  | .ptr d => uptoBulk d + 1
  | .slice elems spare => uptoBulkAll elems + uptoBulkAll spare + 1
  | .agg parts => uptoBulkAll parts + 1
  | .iface _ d => uptoBulk d + 1
  | .map entries => uptoBulkEntries entries + 1
  | .held _ => 1
def uptoBulkAll {H : Type} : List (DataW H) → Nat
  | [] => 0
  | d :: r => uptoBulk d + uptoBulkAll r
def uptoBulkEntries {H : Type} : List (Lit × DataW H) → Nat
  | [] => 0
  | x :: r => uptoBulkEntry x + uptoBulkEntries r
def uptoBulkEntry {H : Type} : Lit × DataW H → Nat
  | (.string bytes, d) => bytes.length + uptoBulk d + 1
  | (_, d) => uptoBulk d + 1
 end
def uptoSmall : (H : Type) → List (DataW H) → Bool := fun _ ds => decide (uptoBulkAll ds ≤ 1048576)
def OpenSpec.upto (s : _root_.Go.ChangeSpec) : _root_.Go.OpenSpec := { _root_.Go.OpenSpec.ofChange s with cond := some uptoSmall }

/-- 'laws.FnChunks', WHERE WHAT IT READS IS OF BULK AT MOST 1048576: true; the input reads as it did. -/
def fnChunksUptoRow : OpenClaim := { program := "ytofblofmejgipaa", sum := "e94d9e61667377fea4834a32cffc7c859fd6ecce70efeb226ab318306beec1c7", func := "loop.example/g00099/laws.FnChunks", spec := "fnChunks", leaving := true, apart := false, narrowed := true }
def FnChunksUptoSaid : Prop := fnChunksUptoRow.holds Try.pinned (OpenSpec.upto fnChunksSpec)

/-- 'laws.FnOneChunk', WHERE WHAT IT READS IS OF BULK AT MOST 1048576: true; the input reads as it did. -/
def fnOneChunkUptoRow : OpenClaim := { program := "ytofblofmejgipaa", sum := "e94d9e61667377fea4834a32cffc7c859fd6ecce70efeb226ab318306beec1c7", func := "loop.example/g00099/laws.FnOneChunk", spec := "fnOneChunk", leaving := true, apart := false, narrowed := true }
def FnOneChunkUptoSaid : Prop := fnOneChunkUptoRow.holds Try.pinned (OpenSpec.upto fnOneChunkSpec)

/-- 'laws.FnExactNameOk', WHERE WHAT IT READS IS OF BULK AT MOST 1048576: true; the input reads as it did. -/
def fnExactNameOkUptoRow : OpenClaim := { program := "ytofblofmejgipaa", sum := "e94d9e61667377fea4834a32cffc7c859fd6ecce70efeb226ab318306beec1c7", func := "loop.example/g00099/laws.FnExactNameOk", spec := "fnExactNameOk", apart := false, narrowed := true }
def FnExactNameOkUptoSaid : Prop := fnExactNameOkUptoRow.holds Try.pinned (OpenSpec.upto fnExactNameOkSpec)

/-- 'laws.FnExactNeedless', WHERE WHAT IT READS IS OF BULK AT MOST 1048576: true; the input reads as it did. -/
def fnExactNeedlessUptoRow : OpenClaim := { program := "ytofblofmejgipaa", sum := "e94d9e61667377fea4834a32cffc7c859fd6ecce70efeb226ab318306beec1c7", func := "loop.example/g00099/laws.FnExactNeedless", spec := "fnExactNeedless", apart := false, narrowed := true }
def FnExactNeedlessUptoSaid : Prop := fnExactNeedlessUptoRow.holds Try.pinned (OpenSpec.upto fnExactNeedlessSpec)

/-- 'laws.FnExactSafeToCopy', WHERE WHAT IT READS IS OF BULK AT MOST 1048576: true; the input reads as it did. -/
def fnExactSafeToCopyUptoRow : OpenClaim := { program := "ytofblofmejgipaa", sum := "e94d9e61667377fea4834a32cffc7c859fd6ecce70efeb226ab318306beec1c7", func := "loop.example/g00099/laws.FnExactSafeToCopy", spec := "fnExactSafeToCopy", apart := false, narrowed := true }
def FnExactSafeToCopyUptoSaid : Prop := fnExactSafeToCopyUptoRow.holds Try.pinned (OpenSpec.upto fnExactSafeToCopySpec)

/-- 'laws.FnExactChunksText', WHERE WHAT IT READS IS OF BULK AT MOST 1048576: true; the input reads as it did. -/
def fnExactChunksTextUptoRow : OpenClaim := { program := "ytofblofmejgipaa", sum := "e94d9e61667377fea4834a32cffc7c859fd6ecce70efeb226ab318306beec1c7", func := "loop.example/g00099/laws.FnExactChunksText", spec := "fnExactChunksText", apart := false, narrowed := true }
def FnExactChunksTextUptoSaid : Prop := fnExactChunksTextUptoRow.holds Try.pinned (OpenSpec.upto fnExactChunksTextSpec)

end Rows
end Go.Proofs.Ytofblofmejgipaa
