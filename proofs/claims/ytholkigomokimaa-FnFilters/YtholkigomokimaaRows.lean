/-
  No cell of these rows narrows 'for every input' (looked for: loops, veiled, ifaces, maps, wideKeys, modest, calm, conditions, laid).
  DERIVED. THE GIVEN ROWS OF THIS SEAT. 8 by the template 'for every input the law returns true; each argument reads behind the call as it read before'; 0 by the template 'total and deterministic' (their statements: YtholkigomokimaaTotals.lean).
  GIVEN WITH THE SEED: the statements are not yours to turn. If you find one false, say at which input.
  Laid BY PROGRAM, IN A SANDBOX (cutbox-rows.mjs): the forced cells as the released guide's own fill.sh prints them over the translation bf34b5f637eb9377… (all of the seat's roots in one cut). By AI agents, Wed Nov 11 2026. No macro, syntax, notation, axiom, sorry.
-/
import Derived.Test.YtholkigomokimaaChecked
import GoSem.Claim
import GoSem.ClaimJoined
import GoSem.ClaimMapViews
import Derived.JoinedTies
import Derived.KernelRfl
namespace Go.Proofs.Ytholkigomokimaa
/- THE CELL 'sum', in the pinned program and in every row, IS THE sha256 OF THE DUMP (.gsa) THAT YtholkigomokimaaProg.lean LOADS. Nothing in Lean hashes anything: it is a label: what it is worth is what the hold of that sum in a sandbox is worth. -/
noncomputable def Try.pinned : Pinned := { name := "ytholkigomokimaa", sum := "bf34b5f637eb93777815bceb3b164054ae6bcb1ba4e873ee947bd04371e22a02", checked := Try.checked }
namespace Rows
def none {H : Type} : Left H := { results := [], args := [] }

/-- 'laws.FnRows': WHATEVER THE INPUT: true; the input reads as it did. -/
def fnRowsSpec : ChangeSpec := { name := "fnRows", fn := fun _ => fun
  | [d] => { results := [.lit (.bool true)], args := [d] }
  | _ => none }
def fnRowsRow : OpenClaim := { program := "ytholkigomokimaa", sum := "bf34b5f637eb93777815bceb3b164054ae6bcb1ba4e873ee947bd04371e22a02", func := "loop.example/g00099/laws.FnRows", spec := "fnRows", apart := false }
def FnRowsSaid : Prop := fnRowsRow.holds Try.pinned (OpenSpec.ofChange fnRowsSpec)

/-- ITS FALSE NEIGHBOUR: 'it returns false'. Refute it at one input. -/
def fnRowsWrong : ChangeSpec := { name := "fnRows", fn := fun _ => fun
  | [d] => { results := [.lit (.bool false)], args := [d] }
  | _ => none }
def FnRowsWrongFalsely : Prop := fnRowsRow.holds Try.pinned (OpenSpec.ofChange fnRowsWrong)

/-- 'laws.FnFilters': WHATEVER THE INPUT: true; the input reads as it did. -/
def fnFiltersSpec : ChangeSpec := { name := "fnFilters", fn := fun _ => fun
  | [d] => { results := [.lit (.bool true)], args := [d] }
  | _ => none }
def fnFiltersRow : OpenClaim := { program := "ytholkigomokimaa", sum := "bf34b5f637eb93777815bceb3b164054ae6bcb1ba4e873ee947bd04371e22a02", func := "loop.example/g00099/laws.FnFilters", spec := "fnFilters", unfollowed := true, recurses := true, apart := false }
def FnFiltersSaid : Prop := fnFiltersRow.holds Try.pinned (OpenSpec.ofChange fnFiltersSpec)

/-- ITS FALSE NEIGHBOUR: 'it returns false'. Refute it at one input. -/
def fnFiltersWrong : ChangeSpec := { name := "fnFilters", fn := fun _ => fun
  | [d] => { results := [.lit (.bool false)], args := [d] }
  | _ => none }
def FnFiltersWrongFalsely : Prop := fnFiltersRow.holds Try.pinned (OpenSpec.ofChange fnFiltersWrong)

/-- 'laws.FnExactPackRow': WHATEVER THE INPUT: true; the input reads as it did. -/
def fnExactPackRowSpec : ChangeSpec := { name := "fnExactPackRow", fn := fun _ => fun
  | [d1, d2] => { results := [.lit (.bool true)], args := [d1, d2] }
  | _ => none }
def fnExactPackRowRow : OpenClaim := { program := "ytholkigomokimaa", sum := "bf34b5f637eb93777815bceb3b164054ae6bcb1ba4e873ee947bd04371e22a02", func := "loop.example/g00099/laws.FnExactPackRow", spec := "fnExactPackRow", apart := false }
def FnExactPackRowSaid : Prop := fnExactPackRowRow.holds Try.pinned (OpenSpec.ofChange fnExactPackRowSpec)

/-- ITS FALSE NEIGHBOUR: 'it returns false'. Refute it at one input. -/
def fnExactPackRowWrong : ChangeSpec := { name := "fnExactPackRow", fn := fun _ => fun
  | [d1, d2] => { results := [.lit (.bool false)], args := [d1, d2] }
  | _ => none }
def FnExactPackRowWrongFalsely : Prop := fnExactPackRowRow.holds Try.pinned (OpenSpec.ofChange fnExactPackRowWrong)

/-- 'laws.FnExactUnpackRow': WHATEVER THE INPUT: true; the input reads as it did. -/
def fnExactUnpackRowSpec : ChangeSpec := { name := "fnExactUnpackRow", fn := fun _ => fun
  | [d1, d2, d3] => { results := [.lit (.bool true)], args := [d1, d2, d3] }
  | _ => none }
def fnExactUnpackRowRow : OpenClaim := { program := "ytholkigomokimaa", sum := "bf34b5f637eb93777815bceb3b164054ae6bcb1ba4e873ee947bd04371e22a02", func := "loop.example/g00099/laws.FnExactUnpackRow", spec := "fnExactUnpackRow", apart := false }
def FnExactUnpackRowSaid : Prop := fnExactUnpackRowRow.holds Try.pinned (OpenSpec.ofChange fnExactUnpackRowSpec)

/-- ITS FALSE NEIGHBOUR: 'it returns false'. Refute it at one input. -/
def fnExactUnpackRowWrong : ChangeSpec := { name := "fnExactUnpackRow", fn := fun _ => fun
  | [d1, d2, d3] => { results := [.lit (.bool false)], args := [d1, d2, d3] }
  | _ => none }
def FnExactUnpackRowWrongFalsely : Prop := fnExactUnpackRowRow.holds Try.pinned (OpenSpec.ofChange fnExactUnpackRowWrong)

/-- 'laws.FnExactFilterRow': WHATEVER THE INPUT: true; the input reads as it did. -/
def fnExactFilterRowSpec : ChangeSpec := { name := "fnExactFilterRow", fn := fun _ => fun
  | [d1, d2, d3, d4] => { results := [.lit (.bool true)], args := [d1, d2, d3, d4] }
  | _ => none }
def fnExactFilterRowRow : OpenClaim := { program := "ytholkigomokimaa", sum := "bf34b5f637eb93777815bceb3b164054ae6bcb1ba4e873ee947bd04371e22a02", func := "loop.example/g00099/laws.FnExactFilterRow", spec := "fnExactFilterRow", unfollowed := true, recurses := true, apart := false }
def FnExactFilterRowSaid : Prop := fnExactFilterRowRow.holds Try.pinned (OpenSpec.ofChange fnExactFilterRowSpec)

/-- ITS FALSE NEIGHBOUR: 'it returns false'. Refute it at one input. -/
def fnExactFilterRowWrong : ChangeSpec := { name := "fnExactFilterRow", fn := fun _ => fun
  | [d1, d2, d3, d4] => { results := [.lit (.bool false)], args := [d1, d2, d3, d4] }
  | _ => none }
def FnExactFilterRowWrongFalsely : Prop := fnExactFilterRowRow.holds Try.pinned (OpenSpec.ofChange fnExactFilterRowWrong)

/-- 'laws.FnExactUnfilterRow': WHATEVER THE INPUT: true; the input reads as it did. -/
def fnExactUnfilterRowSpec : ChangeSpec := { name := "fnExactUnfilterRow", fn := fun _ => fun
  | [d1, d2, d3, d4] => { results := [.lit (.bool true)], args := [d1, d2, d3, d4] }
  | _ => none }
def fnExactUnfilterRowRow : OpenClaim := { program := "ytholkigomokimaa", sum := "bf34b5f637eb93777815bceb3b164054ae6bcb1ba4e873ee947bd04371e22a02", func := "loop.example/g00099/laws.FnExactUnfilterRow", spec := "fnExactUnfilterRow", unfollowed := true, recurses := true, apart := false }
def FnExactUnfilterRowSaid : Prop := fnExactUnfilterRowRow.holds Try.pinned (OpenSpec.ofChange fnExactUnfilterRowSpec)

/-- ITS FALSE NEIGHBOUR: 'it returns false'. Refute it at one input. -/
def fnExactUnfilterRowWrong : ChangeSpec := { name := "fnExactUnfilterRow", fn := fun _ => fun
  | [d1, d2, d3, d4] => { results := [.lit (.bool false)], args := [d1, d2, d3, d4] }
  | _ => none }
def FnExactUnfilterRowWrongFalsely : Prop := fnExactUnfilterRowRow.holds Try.pinned (OpenSpec.ofChange fnExactUnfilterRowWrong)

/-- 'laws.FnExactRowWeight': WHATEVER THE INPUT: true; the input reads as it did. -/
def fnExactRowWeightSpec : ChangeSpec := { name := "fnExactRowWeight", fn := fun _ => fun
  | [d] => { results := [.lit (.bool true)], args := [d] }
  | _ => none }
def fnExactRowWeightRow : OpenClaim := { program := "ytholkigomokimaa", sum := "bf34b5f637eb93777815bceb3b164054ae6bcb1ba4e873ee947bd04371e22a02", func := "loop.example/g00099/laws.FnExactRowWeight", spec := "fnExactRowWeight", apart := false }
def FnExactRowWeightSaid : Prop := fnExactRowWeightRow.holds Try.pinned (OpenSpec.ofChange fnExactRowWeightSpec)

/-- ITS FALSE NEIGHBOUR: 'it returns false'. Refute it at one input. -/
def fnExactRowWeightWrong : ChangeSpec := { name := "fnExactRowWeight", fn := fun _ => fun
  | [d] => { results := [.lit (.bool false)], args := [d] }
  | _ => none }
def FnExactRowWeightWrongFalsely : Prop := fnExactRowWeightRow.holds Try.pinned (OpenSpec.ofChange fnExactRowWeightWrong)

/-- 'laws.FnExactBestFilter': WHATEVER THE INPUT: true; the input reads as it did. -/
def fnExactBestFilterSpec : ChangeSpec := { name := "fnExactBestFilter", fn := fun _ => fun
  | [d1, d2, d3] => { results := [.lit (.bool true)], args := [d1, d2, d3] }
  | _ => none }
def fnExactBestFilterRow : OpenClaim := { program := "ytholkigomokimaa", sum := "bf34b5f637eb93777815bceb3b164054ae6bcb1ba4e873ee947bd04371e22a02", func := "loop.example/g00099/laws.FnExactBestFilter", spec := "fnExactBestFilter", unfollowed := true, recurses := true, apart := false }
def FnExactBestFilterSaid : Prop := fnExactBestFilterRow.holds Try.pinned (OpenSpec.ofChange fnExactBestFilterSpec)

/-- ITS FALSE NEIGHBOUR: 'it returns false'. Refute it at one input. -/
def fnExactBestFilterWrong : ChangeSpec := { name := "fnExactBestFilter", fn := fun _ => fun
  | [d1, d2, d3] => { results := [.lit (.bool false)], args := [d1, d2, d3] }
  | _ => none }
def FnExactBestFilterWrongFalsely : Prop := fnExactBestFilterRow.holds Try.pinned (OpenSpec.ofChange fnExactBestFilterWrong)

/- THE SECOND FORM. 'bulk': how many values and letters a reading holds, each counted each time it is reached (what is shared counts as often as it is met; a slice's spare places count too). A statement '..UptoSaid' is the law's where the arguments, and the package variables that the reading takes, are together of bulk at most 1048576: NARROWER than '..Said'. Prove '..Said' where nothing that the law and all that it calls make is longer than what came in: it says more and counts as full. Else prove '..UptoSaid'. A law counts once. -/
mutual
def uptoBulk {H : Type} : DataW H → Nat
  | .lit (.string bytes) => bytes.length + 1
  | .lit _ => 1
  | .nil => 1
  | .ptr d => uptoBulk d + 1
  | .slice elems spare => uptoBulkAll elems + uptoBulkAll spare + 1
  | .agg parts => uptoBulkAll parts + 1
  | .iface _ d => uptoBulk d + 1
  | .map entries => uptoBulkEntries entries + 1
  | .held _ => 1
def uptoBulkAll {H : Type} : List (DataW H) → Nat
  | [] => 0
  | d :: r => uptoBulk d + uptoBulkAll r
def uptoBulkEntries {H : Type} : List (Lit × DataW H) → Nat
  | [] => 0
  | x :: r => uptoBulkEntry x + uptoBulkEntries r
def uptoBulkEntry {H : Type} : Lit × DataW H → Nat
  | (.string bytes, d) => bytes.length + uptoBulk d + 1
  | (_, d) => uptoBulk d + 1
 end
def uptoSmall : (H : Type) → List (DataW H) → Bool := fun _ ds => decide (uptoBulkAll ds ≤ 1048576)
def OpenSpec.upto (s : _root_.Go.ChangeSpec) : _root_.Go.OpenSpec := { _root_.Go.OpenSpec.ofChange s with cond := some uptoSmall }

/-- 'laws.FnRows', WHERE WHAT IT READS IS OF BULK AT MOST 1048576: true; the input reads as it did. -/
def fnRowsUptoRow : OpenClaim := { program := "ytholkigomokimaa", sum := "bf34b5f637eb93777815bceb3b164054ae6bcb1ba4e873ee947bd04371e22a02", func := "loop.example/g00099/laws.FnRows", spec := "fnRows", apart := false, narrowed := true }
def FnRowsUptoSaid : Prop := fnRowsUptoRow.holds Try.pinned (OpenSpec.upto fnRowsSpec)

/-- 'laws.FnFilters', WHERE WHAT IT READS IS OF BULK AT MOST 1048576: true; the input reads as it did. -/
def fnFiltersUptoRow : OpenClaim := { program := "ytholkigomokimaa", sum := "bf34b5f637eb93777815bceb3b164054ae6bcb1ba4e873ee947bd04371e22a02", func := "loop.example/g00099/laws.FnFilters", spec := "fnFilters", unfollowed := true, recurses := true, apart := false, narrowed := true }
def FnFiltersUptoSaid : Prop := fnFiltersUptoRow.holds Try.pinned (OpenSpec.upto fnFiltersSpec)

/-- 'laws.FnExactPackRow', WHERE WHAT IT READS IS OF BULK AT MOST 1048576: true; the input reads as it did. -/
def fnExactPackRowUptoRow : OpenClaim := { program := "ytholkigomokimaa", sum := "bf34b5f637eb93777815bceb3b164054ae6bcb1ba4e873ee947bd04371e22a02", func := "loop.example/g00099/laws.FnExactPackRow", spec := "fnExactPackRow", apart := false, narrowed := true }
def FnExactPackRowUptoSaid : Prop := fnExactPackRowUptoRow.holds Try.pinned (OpenSpec.upto fnExactPackRowSpec)

/-- 'laws.FnExactUnpackRow', WHERE WHAT IT READS IS OF BULK AT MOST 1048576: true; the input reads as it did. -/
def fnExactUnpackRowUptoRow : OpenClaim := { program := "ytholkigomokimaa", sum := "bf34b5f637eb93777815bceb3b164054ae6bcb1ba4e873ee947bd04371e22a02", func := "loop.example/g00099/laws.FnExactUnpackRow", spec := "fnExactUnpackRow", apart := false, narrowed := true }
def FnExactUnpackRowUptoSaid : Prop := fnExactUnpackRowUptoRow.holds Try.pinned (OpenSpec.upto fnExactUnpackRowSpec)

/-- 'laws.FnExactFilterRow', WHERE WHAT IT READS IS OF BULK AT MOST 1048576: true; the input reads as it did. -/
def fnExactFilterRowUptoRow : OpenClaim := { program := "ytholkigomokimaa", sum := "bf34b5f637eb93777815bceb3b164054ae6bcb1ba4e873ee947bd04371e22a02", func := "loop.example/g00099/laws.FnExactFilterRow", spec := "fnExactFilterRow", unfollowed := true, recurses := true, apart := false, narrowed := true }
def FnExactFilterRowUptoSaid : Prop := fnExactFilterRowUptoRow.holds Try.pinned (OpenSpec.upto fnExactFilterRowSpec)

/-- 'laws.FnExactUnfilterRow', WHERE WHAT IT READS IS OF BULK AT MOST 1048576: true; the input reads as it did. -/
def fnExactUnfilterRowUptoRow : OpenClaim := { program := "ytholkigomokimaa", sum := "bf34b5f637eb93777815bceb3b164054ae6bcb1ba4e873ee947bd04371e22a02", func := "loop.example/g00099/laws.FnExactUnfilterRow", spec := "fnExactUnfilterRow", unfollowed := true, recurses := true, apart := false, narrowed := true }
def FnExactUnfilterRowUptoSaid : Prop := fnExactUnfilterRowUptoRow.holds Try.pinned (OpenSpec.upto fnExactUnfilterRowSpec)

/-- 'laws.FnExactRowWeight', WHERE WHAT IT READS IS OF BULK AT MOST 1048576: true; the input reads as it did. -/
def fnExactRowWeightUptoRow : OpenClaim := { program := "ytholkigomokimaa", sum := "bf34b5f637eb93777815bceb3b164054ae6bcb1ba4e873ee947bd04371e22a02", func := "loop.example/g00099/laws.FnExactRowWeight", spec := "fnExactRowWeight", apart := false, narrowed := true }
def FnExactRowWeightUptoSaid : Prop := fnExactRowWeightUptoRow.holds Try.pinned (OpenSpec.upto fnExactRowWeightSpec)

/-- 'laws.FnExactBestFilter', WHERE WHAT IT READS IS OF BULK AT MOST 1048576: true; the input reads as it did. -/
def fnExactBestFilterUptoRow : OpenClaim := { program := "ytholkigomokimaa", sum := "bf34b5f637eb93777815bceb3b164054ae6bcb1ba4e873ee947bd04371e22a02", func := "loop.example/g00099/laws.FnExactBestFilter", spec := "fnExactBestFilter", unfollowed := true, recurses := true, apart := false, narrowed := true }
def FnExactBestFilterUptoSaid : Prop := fnExactBestFilterUptoRow.holds Try.pinned (OpenSpec.upto fnExactBestFilterSpec)

end Rows
end Go.Proofs.Ytholkigomokimaa
