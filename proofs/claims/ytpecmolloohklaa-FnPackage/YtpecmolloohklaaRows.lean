/-
  No cell of these rows narrows 'for every input' (looked for: loops, veiled, ifaces, maps, wideKeys, modest, calm, conditions, laid).
  DERIVED. THE GIVEN ROWS OF THIS SEAT. 4 by the template 'for every input the law returns true; each argument reads behind the call as it read before'; 0 by the template 'total and deterministic' (their statements: YtpecmolloohklaaTotals.lean).
  GIVEN WITH THE SEED: the statements are not yours to turn. If you find one false, say at which input.
  Laid BY PROGRAM, IN A SANDBOX (cutbox-rows.mjs): the forced cells as the released guide's own fill.sh prints them over the translation 7517cc7d8f185911… (all of the seat's roots in one cut). By AI agents, Wed Nov 11 2026. No macro, syntax, notation, axiom, sorry.
-/
import Derived.Test.YtpecmolloohklaaChecked
import GoSem.Claim
import GoSem.ClaimJoined
import GoSem.ClaimMapViews
import Derived.JoinedTies
import Derived.KernelRfl
namespace Go.Proofs.Ytpecmolloohklaa
/- THE CELL 'sum', in the pinned program and in every row, IS THE sha256 OF THE DUMP (.gsa) THAT YtpecmolloohklaaProg.lean LOADS. Nothing in Lean hashes anything: it is a label: what it is worth is what the hold of that sum in a sandbox is worth. -/
noncomputable def Try.pinned : Pinned := { name := "ytpecmolloohklaa", sum := "7517cc7d8f1859111d2b448c5a5820ee7b836e0162b98343bf48cd0de08cdc89", checked := Try.checked }
namespace Rows
def none {H : Type} : Left H := { results := [], args := [] }

/-- 'laws.FnPackage': WHATEVER THE INPUT: true; the input reads as it did. -/
def fnPackageSpec : ChangeSpec := { name := "fnPackage", fn := fun _ => fun
  | [d] => { results := [.lit (.bool true)], args := [d] }
  | _ => none }
def fnPackageRow : OpenClaim := { program := "ytpecmolloohklaa", sum := "7517cc7d8f1859111d2b448c5a5820ee7b836e0162b98343bf48cd0de08cdc89", func := "loop.example/g00099/laws.FnPackage", spec := "fnPackage", unfollowed := true, recurses := true, apart := false }
def FnPackageSaid : Prop := fnPackageRow.holds Try.pinned (OpenSpec.ofChange fnPackageSpec)

/-- ITS FALSE NEIGHBOUR: 'it returns false'. Refute it at one input. -/
def fnPackageWrong : ChangeSpec := { name := "fnPackage", fn := fun _ => fun
  | [d] => { results := [.lit (.bool false)], args := [d] }
  | _ => none }
def FnPackageWrongFalsely : Prop := fnPackageRow.holds Try.pinned (OpenSpec.ofChange fnPackageWrong)

/-- 'laws.FnCounts': WHATEVER THE INPUT: true; the input reads as it did. -/
def fnCountsSpec : ChangeSpec := { name := "fnCounts", fn := fun _ => fun
  | [d] => { results := [.lit (.bool true)], args := [d] }
  | _ => none }
def fnCountsRow : OpenClaim := { program := "ytpecmolloohklaa", sum := "7517cc7d8f1859111d2b448c5a5820ee7b836e0162b98343bf48cd0de08cdc89", func := "loop.example/g00099/laws.FnCounts", spec := "fnCounts", apart := false }
def FnCountsSaid : Prop := fnCountsRow.holds Try.pinned (OpenSpec.ofChange fnCountsSpec)

/-- ITS FALSE NEIGHBOUR: 'it returns false'. Refute it at one input. -/
def fnCountsWrong : ChangeSpec := { name := "fnCounts", fn := fun _ => fun
  | [d] => { results := [.lit (.bool false)], args := [d] }
  | _ => none }
def FnCountsWrongFalsely : Prop := fnCountsRow.holds Try.pinned (OpenSpec.ofChange fnCountsWrong)

/-- 'laws.FnExactCountsOf': WHATEVER THE INPUT: true; the input reads as it did. -/
def fnExactCountsOfSpec : ChangeSpec := { name := "fnExactCountsOf", fn := fun _ => fun
  | [d1, d2] => { results := [.lit (.bool true)], args := [d1, d2] }
  | _ => none }
def fnExactCountsOfRow : OpenClaim := { program := "ytpecmolloohklaa", sum := "7517cc7d8f1859111d2b448c5a5820ee7b836e0162b98343bf48cd0de08cdc89", func := "loop.example/g00099/laws.FnExactCountsOf", spec := "fnExactCountsOf", apart := false }
def FnExactCountsOfSaid : Prop := fnExactCountsOfRow.holds Try.pinned (OpenSpec.ofChange fnExactCountsOfSpec)

/-- ITS FALSE NEIGHBOUR: 'it returns false'. Refute it at one input. -/
def fnExactCountsOfWrong : ChangeSpec := { name := "fnExactCountsOf", fn := fun _ => fun
  | [d1, d2] => { results := [.lit (.bool false)], args := [d1, d2] }
  | _ => none }
def FnExactCountsOfWrongFalsely : Prop := fnExactCountsOfRow.holds Try.pinned (OpenSpec.ofChange fnExactCountsOfWrong)

/-- 'laws.FnExactLimitedLengths': WHATEVER THE INPUT: true; the input reads as it did. -/
def fnExactLimitedLengthsSpec : ChangeSpec := { name := "fnExactLimitedLengths", fn := fun _ => fun
  | [d1, d2] => { results := [.lit (.bool true)], args := [d1, d2] }
  | _ => none }
def fnExactLimitedLengthsRow : OpenClaim := { program := "ytpecmolloohklaa", sum := "7517cc7d8f1859111d2b448c5a5820ee7b836e0162b98343bf48cd0de08cdc89", func := "loop.example/g00099/laws.FnExactLimitedLengths", spec := "fnExactLimitedLengths", unfollowed := true, recurses := true, apart := false }
def FnExactLimitedLengthsSaid : Prop := fnExactLimitedLengthsRow.holds Try.pinned (OpenSpec.ofChange fnExactLimitedLengthsSpec)

/-- ITS FALSE NEIGHBOUR: 'it returns false'. Refute it at one input. -/
def fnExactLimitedLengthsWrong : ChangeSpec := { name := "fnExactLimitedLengths", fn := fun _ => fun
  | [d1, d2] => { results := [.lit (.bool false)], args := [d1, d2] }
  | _ => none }
def FnExactLimitedLengthsWrongFalsely : Prop := fnExactLimitedLengthsRow.holds Try.pinned (OpenSpec.ofChange fnExactLimitedLengthsWrong)

/- THE SECOND FORM. 'bulk': how many values and letters a reading holds, each counted each time it is reached (what is shared counts as often as it is met; a slice's spare places count too). A statement '..UptoSaid' is the law's where the arguments, and the package variables that the reading takes, are together of bulk at most 1048576: NARROWER than '..Said'. Prove '..Said' where nothing that the law and all that it calls make is longer than what came in: it says more and counts as full. Else prove '..UptoSaid'. A law counts once. -/
mutual
def uptoBulk {H : Type} : DataW H → Nat
  | .lit (.string bytes) => bytes.length + 1
  | .lit _ => 1
  | .nil => 1
  | .ptr d => uptoBulk d + 1
  | .slice elems spare => uptoBulkAll elems + uptoBulkAll spare + 1
  | .agg parts => uptoBulkAll parts + 1
  | .iface _ d => uptoBulk d + 1
  | .map entries => uptoBulkEntries entries + 1
  | .held _ => 1
def uptoBulkAll {H : Type} : List (DataW H) → Nat
  | [] => 0
  | d :: r => uptoBulk d + uptoBulkAll r
def uptoBulkEntries {H : Type} : List (Lit × DataW H) → Nat
  | [] => 0
  | x :: r => uptoBulkEntry x + uptoBulkEntries r
def uptoBulkEntry {H : Type} : Lit × DataW H → Nat
  | (.string bytes, d) => bytes.length + uptoBulk d + 1
  | (_, d) => uptoBulk d + 1
 end
def uptoSmall : (H : Type) → List (DataW H) → Bool := fun _ ds => decide (uptoBulkAll ds ≤ 1048576)
def OpenSpec.upto (s : _root_.Go.ChangeSpec) : _root_.Go.OpenSpec := { _root_.Go.OpenSpec.ofChange s with cond := some uptoSmall }

/-- 'laws.FnPackage', WHERE WHAT IT READS IS OF BULK AT MOST 1048576: true; the input reads as it did. -/
def fnPackageUptoRow : OpenClaim := { program := "ytpecmolloohklaa", sum := "7517cc7d8f1859111d2b448c5a5820ee7b836e0162b98343bf48cd0de08cdc89", func := "loop.example/g00099/laws.FnPackage", spec := "fnPackage", unfollowed := true, recurses := true, apart := false, narrowed := true }
def FnPackageUptoSaid : Prop := fnPackageUptoRow.holds Try.pinned (OpenSpec.upto fnPackageSpec)

/-- 'laws.FnCounts', WHERE WHAT IT READS IS OF BULK AT MOST 1048576: true; the input reads as it did. -/
def fnCountsUptoRow : OpenClaim := { program := "ytpecmolloohklaa", sum := "7517cc7d8f1859111d2b448c5a5820ee7b836e0162b98343bf48cd0de08cdc89", func := "loop.example/g00099/laws.FnCounts", spec := "fnCounts", apart := false, narrowed := true }
def FnCountsUptoSaid : Prop := fnCountsUptoRow.holds Try.pinned (OpenSpec.upto fnCountsSpec)

/-- 'laws.FnExactCountsOf', WHERE WHAT IT READS IS OF BULK AT MOST 1048576: true; the input reads as it did. -/
def fnExactCountsOfUptoRow : OpenClaim := { program := "ytpecmolloohklaa", sum := "7517cc7d8f1859111d2b448c5a5820ee7b836e0162b98343bf48cd0de08cdc89", func := "loop.example/g00099/laws.FnExactCountsOf", spec := "fnExactCountsOf", apart := false, narrowed := true }
def FnExactCountsOfUptoSaid : Prop := fnExactCountsOfUptoRow.holds Try.pinned (OpenSpec.upto fnExactCountsOfSpec)

/-- 'laws.FnExactLimitedLengths', WHERE WHAT IT READS IS OF BULK AT MOST 1048576: true; the input reads as it did. -/
def fnExactLimitedLengthsUptoRow : OpenClaim := { program := "ytpecmolloohklaa", sum := "7517cc7d8f1859111d2b448c5a5820ee7b836e0162b98343bf48cd0de08cdc89", func := "loop.example/g00099/laws.FnExactLimitedLengths", spec := "fnExactLimitedLengths", unfollowed := true, recurses := true, apart := false, narrowed := true }
def FnExactLimitedLengthsUptoSaid : Prop := fnExactLimitedLengthsUptoRow.holds Try.pinned (OpenSpec.upto fnExactLimitedLengthsSpec)

end Rows
end Go.Proofs.Ytpecmolloohklaa
