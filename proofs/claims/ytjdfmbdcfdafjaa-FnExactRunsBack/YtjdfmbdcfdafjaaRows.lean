/-
  No cell of these rows narrows 'for every input' (looked for: loops, veiled, ifaces, maps, wideKeys, modest, calm, conditions, laid).
  DERIVED. THE GIVEN ROWS OF THIS SEAT. 4 by the template 'for every input the law returns true; each argument reads behind the call as it read before'; 0 by the template 'total and deterministic' (their statements: YtjdfmbdcfdafjaaTotals.lean).
  GIVEN WITH THE SEED: the statements are not yours to turn. If you find one false, say at which input.
  Laid BY PROGRAM, IN A SANDBOX (cutbox-rows.mjs): the forced cells as the released guide's own fill.sh prints them over the translation a1eba7352c55c247… (all of the seat's roots in one cut). By AI agents, Wed Nov 11 2026. No macro, syntax, notation, axiom, sorry.
-/
import Derived.Test.YtjdfmbdcfdafjaaChecked
import GoSem.Claim
import GoSem.ClaimJoined
import GoSem.ClaimMapViews
import Derived.JoinedTies
import Derived.KernelRfl
namespace Go.Proofs.Ytjdfmbdcfdafjaa
/- THE CELL 'sum', in the pinned program and in every row, IS THE sha256 OF THE DUMP (.gsa) THAT YtjdfmbdcfdafjaaProg.lean LOADS. Nothing in Lean hashes anything: it is a label: what it is worth is what the hold of that sum in a sandbox is worth. -/
noncomputable def Try.pinned : Pinned := { name := "ytjdfmbdcfdafjaa", sum := "a1eba7352c55c2477d27978da29d9626291b708f952d0935c9835f9bb9559cf2", checked := Try.checked }
namespace Rows
def none {H : Type} : Left H := { results := [], args := [] }

/-- 'laws.FnRuns': WHATEVER THE INPUT: true; the input reads as it did. -/
def fnRunsSpec : ChangeSpec := { name := "fnRuns", fn := fun _ => fun
  | [d] => { results := [.lit (.bool true)], args := [d] }
  | _ => none }
def fnRunsRow : OpenClaim := { program := "ytjdfmbdcfdafjaa", sum := "a1eba7352c55c2477d27978da29d9626291b708f952d0935c9835f9bb9559cf2", func := "loop.example/g00099/laws.FnRuns", spec := "fnRuns", unfollowed := true, recurses := true, apart := false }
def FnRunsSaid : Prop := fnRunsRow.holds Try.pinned (OpenSpec.ofChange fnRunsSpec)

/-- ITS FALSE NEIGHBOUR: 'it returns false'. Refute it at one input. -/
def fnRunsWrong : ChangeSpec := { name := "fnRuns", fn := fun _ => fun
  | [d] => { results := [.lit (.bool false)], args := [d] }
  | _ => none }
def FnRunsWrongFalsely : Prop := fnRunsRow.holds Try.pinned (OpenSpec.ofChange fnRunsWrong)

/-- 'laws.FnExactRunsOf': WHATEVER THE INPUT: true; the input reads as it did. -/
def fnExactRunsOfSpec : ChangeSpec := { name := "fnExactRunsOf", fn := fun _ => fun
  | [d] => { results := [.lit (.bool true)], args := [d] }
  | _ => none }
def fnExactRunsOfRow : OpenClaim := { program := "ytjdfmbdcfdafjaa", sum := "a1eba7352c55c2477d27978da29d9626291b708f952d0935c9835f9bb9559cf2", func := "loop.example/g00099/laws.FnExactRunsOf", spec := "fnExactRunsOf", unfollowed := true, recurses := true, apart := false }
def FnExactRunsOfSaid : Prop := fnExactRunsOfRow.holds Try.pinned (OpenSpec.ofChange fnExactRunsOfSpec)

/-- ITS FALSE NEIGHBOUR: 'it returns false'. Refute it at one input. -/
def fnExactRunsOfWrong : ChangeSpec := { name := "fnExactRunsOf", fn := fun _ => fun
  | [d] => { results := [.lit (.bool false)], args := [d] }
  | _ => none }
def FnExactRunsOfWrongFalsely : Prop := fnExactRunsOfRow.holds Try.pinned (OpenSpec.ofChange fnExactRunsOfWrong)

/-- 'laws.FnExactRunsBack': WHATEVER THE INPUT: true; the input reads as it did. -/
def fnExactRunsBackSpec : ChangeSpec := { name := "fnExactRunsBack", fn := fun _ => fun
  | [d1, d2] => { results := [.lit (.bool true)], args := [d1, d2] }
  | _ => none }
def fnExactRunsBackRow : OpenClaim := { program := "ytjdfmbdcfdafjaa", sum := "a1eba7352c55c2477d27978da29d9626291b708f952d0935c9835f9bb9559cf2", func := "loop.example/g00099/laws.FnExactRunsBack", spec := "fnExactRunsBack", apart := false }
def FnExactRunsBackSaid : Prop := fnExactRunsBackRow.holds Try.pinned (OpenSpec.ofChange fnExactRunsBackSpec)

/-- ITS FALSE NEIGHBOUR: 'it returns false'. Refute it at one input. -/
def fnExactRunsBackWrong : ChangeSpec := { name := "fnExactRunsBack", fn := fun _ => fun
  | [d1, d2] => { results := [.lit (.bool false)], args := [d1, d2] }
  | _ => none }
def FnExactRunsBackWrongFalsely : Prop := fnExactRunsBackRow.holds Try.pinned (OpenSpec.ofChange fnExactRunsBackWrong)

/-- 'laws.FnExactExtraBits': WHATEVER THE INPUT: true; the input reads as it did. -/
def fnExactExtraBitsSpec : ChangeSpec := { name := "fnExactExtraBits", fn := fun _ => fun
  | [d] => { results := [.lit (.bool true)], args := [d] }
  | _ => none }
def fnExactExtraBitsRow : OpenClaim := { program := "ytjdfmbdcfdafjaa", sum := "a1eba7352c55c2477d27978da29d9626291b708f952d0935c9835f9bb9559cf2", func := "loop.example/g00099/laws.FnExactExtraBits", spec := "fnExactExtraBits", apart := false }
def FnExactExtraBitsSaid : Prop := fnExactExtraBitsRow.holds Try.pinned (OpenSpec.ofChange fnExactExtraBitsSpec)

/-- ITS FALSE NEIGHBOUR: 'it returns false'. Refute it at one input. -/
def fnExactExtraBitsWrong : ChangeSpec := { name := "fnExactExtraBits", fn := fun _ => fun
  | [d] => { results := [.lit (.bool false)], args := [d] }
  | _ => none }
def FnExactExtraBitsWrongFalsely : Prop := fnExactExtraBitsRow.holds Try.pinned (OpenSpec.ofChange fnExactExtraBitsWrong)

/- THE SECOND FORM. 'bulk': how many values and letters a reading holds, each counted each time it is reached (what is shared counts as often as it is met; a slice's spare places count too). A statement '..UptoSaid' is the law's where the arguments, and the package variables that the reading takes, are together of bulk at most 1048576: NARROWER than '..Said'. Prove '..Said' where nothing that the law and all that it calls make is longer than what came in: it says more and counts as full. Else prove '..UptoSaid'. A law counts once. -/
mutual
def uptoBulk {H : Type} : DataW H → Nat
  | .lit (.string bytes) => bytes.length + 1
  | .lit _ => 1
  | .nil => 1
  | .ptr d => uptoBulk d + 1
  | .slice elems spare => uptoBulkAll elems + uptoBulkAll spare + 1
  | .agg parts => uptoBulkAll parts + 1
  | .iface _ d => uptoBulk d + 1
  | .map entries => uptoBulkEntries entries + 1
  | .held _ => 1
def uptoBulkAll {H : Type} : List (DataW H) → Nat
  | [] => 0
  | d :: r => uptoBulk d + uptoBulkAll r
def uptoBulkEntries {H : Type} : List (Lit × DataW H) → Nat
  | [] => 0
  | x :: r => uptoBulkEntry x + uptoBulkEntries r
def uptoBulkEntry {H : Type} : Lit × DataW H → Nat
  | (.string bytes, d) => bytes.length + uptoBulk d + 1
  | (_, d) => uptoBulk d + 1
 end
def uptoSmall : (H : Type) → List (DataW H) → Bool := fun _ ds => decide (uptoBulkAll ds ≤ 1048576)
def OpenSpec.upto (s : _root_.Go.ChangeSpec) : _root_.Go.OpenSpec := { _root_.Go.OpenSpec.ofChange s with cond := some uptoSmall }

/-- 'laws.FnRuns', WHERE WHAT IT READS IS OF BULK AT MOST 1048576: true; the input reads as it did. -/
def fnRunsUptoRow : OpenClaim := { program := "ytjdfmbdcfdafjaa", sum := "a1eba7352c55c2477d27978da29d9626291b708f952d0935c9835f9bb9559cf2", func := "loop.example/g00099/laws.FnRuns", spec := "fnRuns", unfollowed := true, recurses := true, apart := false, narrowed := true }
def FnRunsUptoSaid : Prop := fnRunsUptoRow.holds Try.pinned (OpenSpec.upto fnRunsSpec)

/-- 'laws.FnExactRunsOf', WHERE WHAT IT READS IS OF BULK AT MOST 1048576: true; the input reads as it did. -/
def fnExactRunsOfUptoRow : OpenClaim := { program := "ytjdfmbdcfdafjaa", sum := "a1eba7352c55c2477d27978da29d9626291b708f952d0935c9835f9bb9559cf2", func := "loop.example/g00099/laws.FnExactRunsOf", spec := "fnExactRunsOf", unfollowed := true, recurses := true, apart := false, narrowed := true }
def FnExactRunsOfUptoSaid : Prop := fnExactRunsOfUptoRow.holds Try.pinned (OpenSpec.upto fnExactRunsOfSpec)

/-- 'laws.FnExactRunsBack', WHERE WHAT IT READS IS OF BULK AT MOST 1048576: true; the input reads as it did. -/
def fnExactRunsBackUptoRow : OpenClaim := { program := "ytjdfmbdcfdafjaa", sum := "a1eba7352c55c2477d27978da29d9626291b708f952d0935c9835f9bb9559cf2", func := "loop.example/g00099/laws.FnExactRunsBack", spec := "fnExactRunsBack", apart := false, narrowed := true }
def FnExactRunsBackUptoSaid : Prop := fnExactRunsBackUptoRow.holds Try.pinned (OpenSpec.upto fnExactRunsBackSpec)

/-- 'laws.FnExactExtraBits', WHERE WHAT IT READS IS OF BULK AT MOST 1048576: true; the input reads as it did. -/
def fnExactExtraBitsUptoRow : OpenClaim := { program := "ytjdfmbdcfdafjaa", sum := "a1eba7352c55c2477d27978da29d9626291b708f952d0935c9835f9bb9559cf2", func := "loop.example/g00099/laws.FnExactExtraBits", spec := "fnExactExtraBits", apart := false, narrowed := true }
def FnExactExtraBitsUptoSaid : Prop := fnExactExtraBitsUptoRow.holds Try.pinned (OpenSpec.upto fnExactExtraBitsSpec)

end Rows
end Go.Proofs.Ytjdfmbdcfdafjaa
