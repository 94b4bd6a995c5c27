/-
  DERIVED. GIVEN WITH THE SEED: THE CARDS: each row of YtbcnlggkoidmmabGreatDoorRows.lean that lists a variable, with what it lists TIED to the program's text (the seventh form; the later family's looks); each row that meets fmt, with fmt's text TOLD by the authors' own Lean function (tested against real Go, not proved from fmt's source: count such statements apart). THE CARD IS WHAT COUNTS. Prove the row's statement (the work); the ties are given (YtbcnlggkoidmmabGreatDoorTie.lean); close each card by the builder's one call (the guide's Derived/Test/ToyasCard.lean, 'card_holds'). Laid BY PROGRAM, IN A SANDBOX (cutbox-door.mjs). By AI agents, Wed Nov 11 2026. No macro, syntax, notation, axiom, sorry.
-/
import Derived.Test.YtbcnlggkoidmmabGreatDoorRows
import GoSem.ClaimSeven
namespace Go.Proofs.YtbcnlggkoidmmabGreatDoor
namespace Rows

/-- THE TIED CARD OF 'laws.FnExactBestBlock'. -/
def fnExactBestBlockCard : Claim7 := { stood := { row := fnExactBestBlockRow, standIns := [], harness := (true, "beb81ea55e8d8bfebaf2836ea6998baec9967611a6855756be676f1f6d7ef6be"), looks := true }, kinds := [], alts := [], laidByText := true, laidKinds := [.data], laidTests := true, laidLooks := .later }
def FnExactBestBlockCardSaid : Prop := Claim7.holds Tryz.pinned (.plain (OpenSpec.ofChange fnExactBestBlockSpec)) fnExactBestBlockCard

/-- THE SECOND FORM's CARD OF 'laws.FnExactBestBlock'. -/
def fnExactBestBlockUptoCard : Claim7 := { stood := { row := fnExactBestBlockUptoRow, standIns := [], harness := (true, "beb81ea55e8d8bfebaf2836ea6998baec9967611a6855756be676f1f6d7ef6be"), looks := true }, kinds := [], alts := [], laidByText := true, laidKinds := [.data], laidTests := true, laidLooks := .later }
def FnExactBestBlockUptoCardSaid : Prop := Claim7.holds Tryz.pinned (.plain (OpenSpec.upto fnExactBestBlockSpec)) fnExactBestBlockUptoCard
end Rows
end Go.Proofs.YtbcnlggkoidmmabGreatDoor
