/-
  No cell of these rows narrows 'for every input' (looked for: loops, veiled, ifaces, maps, wideKeys, modest, calm, conditions, laid).
  DERIVED. THE GIVEN ROWS OF THIS SEAT. 5 by the template 'for every input the law returns true; each argument reads behind the call as it read before'; 0 by the template 'total and deterministic' (their statements: YtkpbfmdnjnohlaaGreatTotals.lean).
  GIVEN WITH THE SEED: the statements are not yours to turn. If you find one false, say at which input.
  Laid BY PROGRAM, IN A SANDBOX (cutbox-rows.mjs): the forced cells as the released guide's own fill.sh prints them over the translation 17073d4e86addcdb… (all of the seat's roots in one cut). By AI agents, Wed Nov 11 2026. No macro, syntax, notation, axiom, sorry.
-/
import Derived.Test.YtkpbfmdnjnohlaaGreatChecked
import GoSem.Claim
import GoSem.ClaimJoined
import GoSem.ClaimMapViews
import Derived.JoinedTies
import Derived.KernelRfl
namespace Go.Proofs.YtkpbfmdnjnohlaaGreat
/- THE CELL 'sum', in the pinned program and in every row, IS THE sha256 OF THE DUMP (.gsa) THAT YtkpbfmdnjnohlaaGreatProg.lean LOADS. Nothing in Lean hashes anything: it is a label: what it is worth is what the hold of that sum in a sandbox is worth. -/
noncomputable def Tryz.pinned : Pinned := { name := "ytkpbfmdnjnohlaagreat", sum := "17073d4e86addcdbd5e71f0b6f5de9a2642266bad176a9fad88155a6ef63ff3b", checked := Tryz.checked }
namespace Rows
def none {H : Type} : Left H := { results := [], args := [] }

/-- 'laws.FnExactNoCover': WHATEVER THE INPUT: true; the input reads as it did. -/
def fnExactNoCoverSpec : ChangeSpec := { name := "fnExactNoCover", fn := fun _ => fun
  | [d] => { results := [.lit (.bool true)], args := [d] }
  | _ => none }
def fnExactNoCoverRow : OpenClaim := { program := "ytkpbfmdnjnohlaagreat", sum := "17073d4e86addcdbd5e71f0b6f5de9a2642266bad176a9fad88155a6ef63ff3b", func := "loop.example/g00099/laws.FnExactNoCover", spec := "fnExactNoCover", unfollowed := true, recurses := true, plainKeys := false, apart := false }
def FnExactNoCoverSaid : Prop := fnExactNoCoverRow.holds Tryz.pinned (OpenSpec.ofChange fnExactNoCoverSpec)

/-- ITS FALSE NEIGHBOUR: 'it returns false'. Refute it at one input. -/
def fnExactNoCoverWrong : ChangeSpec := { name := "fnExactNoCover", fn := fun _ => fun
  | [d] => { results := [.lit (.bool false)], args := [d] }
  | _ => none }
def FnExactNoCoverWrongFalsely : Prop := fnExactNoCoverRow.holds Tryz.pinned (OpenSpec.ofChange fnExactNoCoverWrong)

/-- 'laws.FnExactNoColor': WHATEVER THE INPUT: true; the input reads as it did. -/
def fnExactNoColorSpec : ChangeSpec := { name := "fnExactNoColor", fn := fun _ => fun
  | [d] => { results := [.lit (.bool true)], args := [d] }
  | _ => none }
def fnExactNoColorRow : OpenClaim := { program := "ytkpbfmdnjnohlaagreat", sum := "17073d4e86addcdbd5e71f0b6f5de9a2642266bad176a9fad88155a6ef63ff3b", func := "loop.example/g00099/laws.FnExactNoColor", spec := "fnExactNoColor", unfollowed := true, recurses := true, plainKeys := false, apart := false }
def FnExactNoColorSaid : Prop := fnExactNoColorRow.holds Tryz.pinned (OpenSpec.ofChange fnExactNoColorSpec)

/-- ITS FALSE NEIGHBOUR: 'it returns false'. Refute it at one input. -/
def fnExactNoColorWrong : ChangeSpec := { name := "fnExactNoColor", fn := fun _ => fun
  | [d] => { results := [.lit (.bool false)], args := [d] }
  | _ => none }
def FnExactNoColorWrongFalsely : Prop := fnExactNoColorRow.holds Tryz.pinned (OpenSpec.ofChange fnExactNoColorWrong)

/-- 'laws.FnExactToTable': WHATEVER THE INPUT: true; the input reads as it did. -/
def fnExactToTableSpec : ChangeSpec := { name := "fnExactToTable", fn := fun _ => fun
  | [d] => { results := [.lit (.bool true)], args := [d] }
  | _ => none }
def fnExactToTableRow : OpenClaim := { program := "ytkpbfmdnjnohlaagreat", sum := "17073d4e86addcdbd5e71f0b6f5de9a2642266bad176a9fad88155a6ef63ff3b", func := "loop.example/g00099/laws.FnExactToTable", spec := "fnExactToTable", unfollowed := true, recurses := true, plainKeys := false, apart := false }
def FnExactToTableSaid : Prop := fnExactToTableRow.holds Tryz.pinned (OpenSpec.ofChange fnExactToTableSpec)

/-- ITS FALSE NEIGHBOUR: 'it returns false'. Refute it at one input. -/
def fnExactToTableWrong : ChangeSpec := { name := "fnExactToTable", fn := fun _ => fun
  | [d] => { results := [.lit (.bool false)], args := [d] }
  | _ => none }
def FnExactToTableWrongFalsely : Prop := fnExactToTableRow.holds Tryz.pinned (OpenSpec.ofChange fnExactToTableWrong)

/-- 'laws.FnExactLessGray': WHATEVER THE INPUT: true; the input reads as it did. -/
def fnExactLessGraySpec : ChangeSpec := { name := "fnExactLessGray", fn := fun _ => fun
  | [d] => { results := [.lit (.bool true)], args := [d] }
  | _ => none }
def fnExactLessGrayRow : OpenClaim := { program := "ytkpbfmdnjnohlaagreat", sum := "17073d4e86addcdbd5e71f0b6f5de9a2642266bad176a9fad88155a6ef63ff3b", func := "loop.example/g00099/laws.FnExactLessGray", spec := "fnExactLessGray", unfollowed := true, recurses := true, plainKeys := false, apart := false }
def FnExactLessGraySaid : Prop := fnExactLessGrayRow.holds Tryz.pinned (OpenSpec.ofChange fnExactLessGraySpec)

/-- ITS FALSE NEIGHBOUR: 'it returns false'. Refute it at one input. -/
def fnExactLessGrayWrong : ChangeSpec := { name := "fnExactLessGray", fn := fun _ => fun
  | [d] => { results := [.lit (.bool false)], args := [d] }
  | _ => none }
def FnExactLessGrayWrongFalsely : Prop := fnExactLessGrayRow.holds Tryz.pinned (OpenSpec.ofChange fnExactLessGrayWrong)

/-- 'laws.FnExactReduced': WHATEVER THE INPUT: true; the input reads as it did. -/
def fnExactReducedSpec : ChangeSpec := { name := "fnExactReduced", fn := fun _ => fun
  | [d] => { results := [.lit (.bool true)], args := [d] }
  | _ => none }
def fnExactReducedRow : OpenClaim := { program := "ytkpbfmdnjnohlaagreat", sum := "17073d4e86addcdbd5e71f0b6f5de9a2642266bad176a9fad88155a6ef63ff3b", func := "loop.example/g00099/laws.FnExactReduced", spec := "fnExactReduced", unfollowed := true, recurses := true, plainKeys := false, apart := false }
def FnExactReducedSaid : Prop := fnExactReducedRow.holds Tryz.pinned (OpenSpec.ofChange fnExactReducedSpec)

/-- ITS FALSE NEIGHBOUR: 'it returns false'. Refute it at one input. -/
def fnExactReducedWrong : ChangeSpec := { name := "fnExactReduced", fn := fun _ => fun
  | [d] => { results := [.lit (.bool false)], args := [d] }
  | _ => none }
def FnExactReducedWrongFalsely : Prop := fnExactReducedRow.holds Tryz.pinned (OpenSpec.ofChange fnExactReducedWrong)

/- THE SECOND FORM. 'bulk': how many values and letters a reading holds, each counted each time it is reached (what is shared counts as often as it is met; a slice's spare places count too). A statement '..UptoSaid' is the law's where the arguments, and the package variables that the reading takes, are together of bulk at most 1048576: NARROWER than '..Said'. Prove '..Said' where nothing that the law and all that it calls make is longer than what came in: it says more and counts as full. Else prove '..UptoSaid'. A law counts once. -/
mutual
def uptoBulk {H : Type} : DataW H → Nat
  | .lit (.string bytes) => bytes.length + 1
  | .lit _ => 1
  | .nil => 1
  | .ptr d => uptoBulk d + 1
  | .slice elems spare => uptoBulkAll elems + uptoBulkAll spare + 1
  | .agg parts => uptoBulkAll parts + 1
  | .iface _ d => uptoBulk d + 1
  | .map entries => uptoBulkEntries entries + 1
  | .held _ => 1
def uptoBulkAll {H : Type} : List (DataW H) → Nat
  | [] => 0
  | d :: r => uptoBulk d + uptoBulkAll r
def uptoBulkEntries {H : Type} : List (Lit × DataW H) → Nat
  | [] => 0
  | x :: r => uptoBulkEntry x + uptoBulkEntries r
def uptoBulkEntry {H : Type} : Lit × DataW H → Nat
  | (.string bytes, d) => bytes.length + uptoBulk d + 1
  | (_, d) => uptoBulk d + 1
 end
def uptoSmall : (H : Type) → List (DataW H) → Bool := fun _ ds => decide (uptoBulkAll ds ≤ 1048576)
def OpenSpec.upto (s : _root_.Go.ChangeSpec) : _root_.Go.OpenSpec := { _root_.Go.OpenSpec.ofChange s with cond := some uptoSmall }

/-- 'laws.FnExactNoCover', WHERE WHAT IT READS IS OF BULK AT MOST 1048576: true; the input reads as it did. -/
def fnExactNoCoverUptoRow : OpenClaim := { program := "ytkpbfmdnjnohlaagreat", sum := "17073d4e86addcdbd5e71f0b6f5de9a2642266bad176a9fad88155a6ef63ff3b", func := "loop.example/g00099/laws.FnExactNoCover", spec := "fnExactNoCover", unfollowed := true, recurses := true, plainKeys := false, apart := false, narrowed := true }
def FnExactNoCoverUptoSaid : Prop := fnExactNoCoverUptoRow.holds Tryz.pinned (OpenSpec.upto fnExactNoCoverSpec)

/-- 'laws.FnExactNoColor', WHERE WHAT IT READS IS OF BULK AT MOST 1048576: true; the input reads as it did. -/
def fnExactNoColorUptoRow : OpenClaim := { program := "ytkpbfmdnjnohlaagreat", sum := "17073d4e86addcdbd5e71f0b6f5de9a2642266bad176a9fad88155a6ef63ff3b", func := "loop.example/g00099/laws.FnExactNoColor", spec := "fnExactNoColor", unfollowed := true, recurses := true, plainKeys := false, apart := false, narrowed := true }
def FnExactNoColorUptoSaid : Prop := fnExactNoColorUptoRow.holds Tryz.pinned (OpenSpec.upto fnExactNoColorSpec)

/-- 'laws.FnExactToTable', WHERE WHAT IT READS IS OF BULK AT MOST 1048576: true; the input reads as it did. -/
def fnExactToTableUptoRow : OpenClaim := { program := "ytkpbfmdnjnohlaagreat", sum := "17073d4e86addcdbd5e71f0b6f5de9a2642266bad176a9fad88155a6ef63ff3b", func := "loop.example/g00099/laws.FnExactToTable", spec := "fnExactToTable", unfollowed := true, recurses := true, plainKeys := false, apart := false, narrowed := true }
def FnExactToTableUptoSaid : Prop := fnExactToTableUptoRow.holds Tryz.pinned (OpenSpec.upto fnExactToTableSpec)

/-- 'laws.FnExactLessGray', WHERE WHAT IT READS IS OF BULK AT MOST 1048576: true; the input reads as it did. -/
def fnExactLessGrayUptoRow : OpenClaim := { program := "ytkpbfmdnjnohlaagreat", sum := "17073d4e86addcdbd5e71f0b6f5de9a2642266bad176a9fad88155a6ef63ff3b", func := "loop.example/g00099/laws.FnExactLessGray", spec := "fnExactLessGray", unfollowed := true, recurses := true, plainKeys := false, apart := false, narrowed := true }
def FnExactLessGrayUptoSaid : Prop := fnExactLessGrayUptoRow.holds Tryz.pinned (OpenSpec.upto fnExactLessGraySpec)

/-- 'laws.FnExactReduced', WHERE WHAT IT READS IS OF BULK AT MOST 1048576: true; the input reads as it did. -/
def fnExactReducedUptoRow : OpenClaim := { program := "ytkpbfmdnjnohlaagreat", sum := "17073d4e86addcdbd5e71f0b6f5de9a2642266bad176a9fad88155a6ef63ff3b", func := "loop.example/g00099/laws.FnExactReduced", spec := "fnExactReduced", unfollowed := true, recurses := true, plainKeys := false, apart := false, narrowed := true }
def FnExactReducedUptoSaid : Prop := fnExactReducedUptoRow.holds Tryz.pinned (OpenSpec.upto fnExactReducedSpec)

end Rows
end Go.Proofs.YtkpbfmdnjnohlaaGreat
