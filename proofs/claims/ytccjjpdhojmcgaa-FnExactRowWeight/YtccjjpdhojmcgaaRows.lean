/-
  No cell of these rows narrows 'for every input' (looked for: loops, veiled, ifaces, maps, wideKeys, modest, calm, conditions, laid).
  DERIVED. THE GIVEN ROWS OF THIS SEAT. 6 by the template 'for every input the law returns true; each argument reads behind the call as it read before'; 0 by the template 'total and deterministic' (their statements: YtccjjpdhojmcgaaTotals.lean).
  GIVEN WITH THE SEED: the statements are not yours to turn. If you find one false, say at which input.
  Laid BY PROGRAM, IN A SANDBOX (cutbox-rows.mjs): the forced cells as the released guide's own fill.sh prints them over the translation 864d34432dcdb085… (all of the seat's roots in one cut). By AI agents, Wed Nov 11 2026. No macro, syntax, notation, axiom, sorry.
-/
import Derived.Test.YtccjjpdhojmcgaaChecked
import GoSem.Claim
import GoSem.ClaimJoined
import GoSem.ClaimMapViews
import Derived.JoinedTies
import Derived.KernelRfl
namespace Go.Proofs.Ytccjjpdhojmcgaa
/- THE CELL 'sum', in the pinned program and in every row, IS THE sha256 OF THE DUMP (.gsa) THAT YtccjjpdhojmcgaaProg.lean LOADS. Nothing in Lean hashes anything: it is a label: what it is worth is what the hold of that sum in a sandbox is worth. -/
noncomputable def Try.pinned : Pinned := { name := "ytccjjpdhojmcgaa", sum := "864d34432dcdb085bc8d95bf448e798fc13aa1b5365bdbef970fcef6349c5e28", checked := Try.checked }
namespace Rows
def none {H : Type} : Left H := { results := [], args := [] }

/-- 'laws.FnFilters': WHATEVER THE INPUT: true; the input reads as it did. -/
def fnFiltersSpec : ChangeSpec := { name := "fnFilters", fn := fun _ => fun
  | [d] => { results := [.lit (.bool true)], args := [d] }
  | _ => none }
def fnFiltersRow : OpenClaim := { program := "ytccjjpdhojmcgaa", sum := "864d34432dcdb085bc8d95bf448e798fc13aa1b5365bdbef970fcef6349c5e28", func := "loop.example/g00099/laws.FnFilters", spec := "fnFilters", unfollowed := true, recurses := true, apart := false }
def FnFiltersSaid : Prop := fnFiltersRow.holds Try.pinned (OpenSpec.ofChange fnFiltersSpec)

/-- ITS FALSE NEIGHBOUR: 'it returns false'. Refute it at one input. -/
def fnFiltersWrong : ChangeSpec := { name := "fnFilters", fn := fun _ => fun
  | [d] => { results := [.lit (.bool false)], args := [d] }
  | _ => none }
def FnFiltersWrongFalsely : Prop := fnFiltersRow.holds Try.pinned (OpenSpec.ofChange fnFiltersWrong)

/-- 'laws.FnPaeth': WHATEVER THE INPUT: true; the input reads as it did. -/
def fnPaethSpec : ChangeSpec := { name := "fnPaeth", fn := fun _ => fun
  | [d] => { results := [.lit (.bool true)], args := [d] }
  | _ => none }
def fnPaethRow : OpenClaim := { program := "ytccjjpdhojmcgaa", sum := "864d34432dcdb085bc8d95bf448e798fc13aa1b5365bdbef970fcef6349c5e28", func := "loop.example/g00099/laws.FnPaeth", spec := "fnPaeth", apart := false }
def FnPaethSaid : Prop := fnPaethRow.holds Try.pinned (OpenSpec.ofChange fnPaethSpec)

/-- ITS FALSE NEIGHBOUR: 'it returns false'. Refute it at one input. -/
def fnPaethWrong : ChangeSpec := { name := "fnPaeth", fn := fun _ => fun
  | [d] => { results := [.lit (.bool false)], args := [d] }
  | _ => none }
def FnPaethWrongFalsely : Prop := fnPaethRow.holds Try.pinned (OpenSpec.ofChange fnPaethWrong)

/-- 'laws.FnExactPaeth': WHATEVER THE INPUT: true; the input reads as it did. -/
def fnExactPaethSpec : ChangeSpec := { name := "fnExactPaeth", fn := fun _ => fun
  | [d1, d2, d3] => { results := [.lit (.bool true)], args := [d1, d2, d3] }
  | _ => none }
def fnExactPaethRow : OpenClaim := { program := "ytccjjpdhojmcgaa", sum := "864d34432dcdb085bc8d95bf448e798fc13aa1b5365bdbef970fcef6349c5e28", func := "loop.example/g00099/laws.FnExactPaeth", spec := "fnExactPaeth", apart := false }
def FnExactPaethSaid : Prop := fnExactPaethRow.holds Try.pinned (OpenSpec.ofChange fnExactPaethSpec)

/-- ITS FALSE NEIGHBOUR: 'it returns false'. Refute it at one input. -/
def fnExactPaethWrong : ChangeSpec := { name := "fnExactPaeth", fn := fun _ => fun
  | [d1, d2, d3] => { results := [.lit (.bool false)], args := [d1, d2, d3] }
  | _ => none }
def FnExactPaethWrongFalsely : Prop := fnExactPaethRow.holds Try.pinned (OpenSpec.ofChange fnExactPaethWrong)

/-- 'laws.FnExactFilterRow': WHATEVER THE INPUT: true; the input reads as it did. -/
def fnExactFilterRowSpec : ChangeSpec := { name := "fnExactFilterRow", fn := fun _ => fun
  | [d1, d2, d3, d4] => { results := [.lit (.bool true)], args := [d1, d2, d3, d4] }
  | _ => none }
def fnExactFilterRowRow : OpenClaim := { program := "ytccjjpdhojmcgaa", sum := "864d34432dcdb085bc8d95bf448e798fc13aa1b5365bdbef970fcef6349c5e28", func := "loop.example/g00099/laws.FnExactFilterRow", spec := "fnExactFilterRow", unfollowed := true, recurses := true, apart := false }
def FnExactFilterRowSaid : Prop := fnExactFilterRowRow.holds Try.pinned (OpenSpec.ofChange fnExactFilterRowSpec)

/-- ITS FALSE NEIGHBOUR: 'it returns false'. Refute it at one input. -/
def fnExactFilterRowWrong : ChangeSpec := { name := "fnExactFilterRow", fn := fun _ => fun
  | [d1, d2, d3, d4] => { results := [.lit (.bool false)], args := [d1, d2, d3, d4] }
  | _ => none }
def FnExactFilterRowWrongFalsely : Prop := fnExactFilterRowRow.holds Try.pinned (OpenSpec.ofChange fnExactFilterRowWrong)

/-- 'laws.FnExactUnfilterRow': WHATEVER THE INPUT: true; the input reads as it did. -/
def fnExactUnfilterRowSpec : ChangeSpec := { name := "fnExactUnfilterRow", fn := fun _ => fun
  | [d1, d2, d3, d4] => { results := [.lit (.bool true)], args := [d1, d2, d3, d4] }
  | _ => none }
def fnExactUnfilterRowRow : OpenClaim := { program := "ytccjjpdhojmcgaa", sum := "864d34432dcdb085bc8d95bf448e798fc13aa1b5365bdbef970fcef6349c5e28", func := "loop.example/g00099/laws.FnExactUnfilterRow", spec := "fnExactUnfilterRow", unfollowed := true, recurses := true, apart := false }
def FnExactUnfilterRowSaid : Prop := fnExactUnfilterRowRow.holds Try.pinned (OpenSpec.ofChange fnExactUnfilterRowSpec)

/-- ITS FALSE NEIGHBOUR: 'it returns false'. Refute it at one input. -/
def fnExactUnfilterRowWrong : ChangeSpec := { name := "fnExactUnfilterRow", fn := fun _ => fun
  | [d1, d2, d3, d4] => { results := [.lit (.bool false)], args := [d1, d2, d3, d4] }
  | _ => none }
def FnExactUnfilterRowWrongFalsely : Prop := fnExactUnfilterRowRow.holds Try.pinned (OpenSpec.ofChange fnExactUnfilterRowWrong)

/-- 'laws.FnExactRowWeight': WHATEVER THE INPUT: true; the input reads as it did. -/
def fnExactRowWeightSpec : ChangeSpec := { name := "fnExactRowWeight", fn := fun _ => fun
  | [d] => { results := [.lit (.bool true)], args := [d] }
  | _ => none }
def fnExactRowWeightRow : OpenClaim := { program := "ytccjjpdhojmcgaa", sum := "864d34432dcdb085bc8d95bf448e798fc13aa1b5365bdbef970fcef6349c5e28", func := "loop.example/g00099/laws.FnExactRowWeight", spec := "fnExactRowWeight", apart := false }
def FnExactRowWeightSaid : Prop := fnExactRowWeightRow.holds Try.pinned (OpenSpec.ofChange fnExactRowWeightSpec)

/-- ITS FALSE NEIGHBOUR: 'it returns false'. Refute it at one input. -/
def fnExactRowWeightWrong : ChangeSpec := { name := "fnExactRowWeight", fn := fun _ => fun
  | [d] => { results := [.lit (.bool false)], args := [d] }
  | _ => none }
def FnExactRowWeightWrongFalsely : Prop := fnExactRowWeightRow.holds Try.pinned (OpenSpec.ofChange fnExactRowWeightWrong)

/- THE SECOND FORM. 'bulk': how many values and letters a reading holds, each counted each time it is reached (what is shared counts as often as it is met; a slice's spare places count too). A statement '..UptoSaid' is the law's where the arguments, and the package variables that the reading takes, are together of bulk at most 1048576: NARROWER than '..Said'. Prove '..Said' where nothing that the law and all that it calls make is longer than what came in: it says more and counts as full. Else prove '..UptoSaid'. A law counts once. -/
mutual
def uptoBulk {H : Type} : DataW H → Nat
  | .lit (.string bytes) => bytes.length + 1
  | .lit _ => 1
  | .nil => 1
  | .ptr d => uptoBulk d + 1
  | .slice elems spare => uptoBulkAll elems + uptoBulkAll spare + 1
  | .agg parts => uptoBulkAll parts + 1
  | .iface _ d => uptoBulk d + 1
  | .map entries => uptoBulkEntries entries + 1
  | .held _ => 1
def uptoBulkAll {H : Type} : List (DataW H) → Nat
  | [] => 0
  | d :: r => uptoBulk d + uptoBulkAll r
def uptoBulkEntries {H : Type} : List (Lit × DataW H) → Nat
  | [] => 0
  | x :: r => uptoBulkEntry x + uptoBulkEntries r
def uptoBulkEntry {H : Type} : Lit × DataW H → Nat
  | (.string bytes, d) => bytes.length + uptoBulk d + 1
  | (_, d) => uptoBulk d + 1
 end
def uptoSmall : (H : Type) → List (DataW H) → Bool := fun _ ds => decide (uptoBulkAll ds ≤ 1048576)
def OpenSpec.upto (s : _root_.Go.ChangeSpec) : _root_.Go.OpenSpec := { _root_.Go.OpenSpec.ofChange s with cond := some uptoSmall }

/-- 'laws.FnFilters', WHERE WHAT IT READS IS OF BULK AT MOST 1048576: true; the input reads as it did. -/
def fnFiltersUptoRow : OpenClaim := { program := "ytccjjpdhojmcgaa", sum := "864d34432dcdb085bc8d95bf448e798fc13aa1b5365bdbef970fcef6349c5e28", func := "loop.example/g00099/laws.FnFilters", spec := "fnFilters", unfollowed := true, recurses := true, apart := false, narrowed := true }
def FnFiltersUptoSaid : Prop := fnFiltersUptoRow.holds Try.pinned (OpenSpec.upto fnFiltersSpec)

/-- 'laws.FnPaeth', WHERE WHAT IT READS IS OF BULK AT MOST 1048576: true; the input reads as it did. -/
def fnPaethUptoRow : OpenClaim := { program := "ytccjjpdhojmcgaa", sum := "864d34432dcdb085bc8d95bf448e798fc13aa1b5365bdbef970fcef6349c5e28", func := "loop.example/g00099/laws.FnPaeth", spec := "fnPaeth", apart := false, narrowed := true }
def FnPaethUptoSaid : Prop := fnPaethUptoRow.holds Try.pinned (OpenSpec.upto fnPaethSpec)

/-- 'laws.FnExactPaeth', WHERE WHAT IT READS IS OF BULK AT MOST 1048576: true; the input reads as it did. -/
def fnExactPaethUptoRow : OpenClaim := { program := "ytccjjpdhojmcgaa", sum := "864d34432dcdb085bc8d95bf448e798fc13aa1b5365bdbef970fcef6349c5e28", func := "loop.example/g00099/laws.FnExactPaeth", spec := "fnExactPaeth", apart := false, narrowed := true }
def FnExactPaethUptoSaid : Prop := fnExactPaethUptoRow.holds Try.pinned (OpenSpec.upto fnExactPaethSpec)

/-- 'laws.FnExactFilterRow', WHERE WHAT IT READS IS OF BULK AT MOST 1048576: true; the input reads as it did. -/
def fnExactFilterRowUptoRow : OpenClaim := { program := "ytccjjpdhojmcgaa", sum := "864d34432dcdb085bc8d95bf448e798fc13aa1b5365bdbef970fcef6349c5e28", func := "loop.example/g00099/laws.FnExactFilterRow", spec := "fnExactFilterRow", unfollowed := true, recurses := true, apart := false, narrowed := true }
def FnExactFilterRowUptoSaid : Prop := fnExactFilterRowUptoRow.holds Try.pinned (OpenSpec.upto fnExactFilterRowSpec)

/-- 'laws.FnExactUnfilterRow', WHERE WHAT IT READS IS OF BULK AT MOST 1048576: true; the input reads as it did. -/
def fnExactUnfilterRowUptoRow : OpenClaim := { program := "ytccjjpdhojmcgaa", sum := "864d34432dcdb085bc8d95bf448e798fc13aa1b5365bdbef970fcef6349c5e28", func := "loop.example/g00099/laws.FnExactUnfilterRow", spec := "fnExactUnfilterRow", unfollowed := true, recurses := true, apart := false, narrowed := true }
def FnExactUnfilterRowUptoSaid : Prop := fnExactUnfilterRowUptoRow.holds Try.pinned (OpenSpec.upto fnExactUnfilterRowSpec)

/-- 'laws.FnExactRowWeight', WHERE WHAT IT READS IS OF BULK AT MOST 1048576: true; the input reads as it did. -/
def fnExactRowWeightUptoRow : OpenClaim := { program := "ytccjjpdhojmcgaa", sum := "864d34432dcdb085bc8d95bf448e798fc13aa1b5365bdbef970fcef6349c5e28", func := "loop.example/g00099/laws.FnExactRowWeight", spec := "fnExactRowWeight", apart := false, narrowed := true }
def FnExactRowWeightUptoSaid : Prop := fnExactRowWeightUptoRow.holds Try.pinned (OpenSpec.upto fnExactRowWeightSpec)

end Rows
end Go.Proofs.Ytccjjpdhojmcgaa
