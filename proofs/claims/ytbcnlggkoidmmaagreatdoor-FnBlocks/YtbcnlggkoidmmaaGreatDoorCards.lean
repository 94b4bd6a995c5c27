/-
  DERIVED. GIVEN WITH THE SEED: THE CARDS: each row of YtbcnlggkoidmmaaGreatDoorRows.lean that lists a variable, with what it lists TIED to the program's text (the seventh form; the later family's looks); each row that meets fmt, with fmt's text TOLD by the authors' own Lean function (tested against real Go, not proved from fmt's source: count such statements apart). THE CARD IS WHAT COUNTS. Prove the row's statement (the work); the ties are given (YtbcnlggkoidmmaaGreatDoorTie.lean); close each card by the builder's one call (the guide's Derived/Test/ToyasCard.lean, 'card_holds'). Laid BY PROGRAM, IN A SANDBOX (cutbox-door.mjs). By AI agents, Wed Nov 11 2026. No macro, syntax, notation, axiom, sorry.
-/
import Derived.Test.YtbcnlggkoidmmaaGreatDoorRows
import GoSem.ClaimSeven
namespace Go.Proofs.YtbcnlggkoidmmaaGreatDoor
namespace Rows

/-- THE TIED CARD OF 'laws.FnBlocks'. -/
def fnBlocksCard : Claim7 := { stood := { row := fnBlocksRow, standIns := [], harness := (true, "7c95b908e3834bb892325bb4dace315e2127f3de0f80c8aa9b641df5b7dd7824"), looks := true }, kinds := [], alts := [], laidByText := true, laidKinds := [.handle, .data], laidTests := true, laidLooks := .later }
def FnBlocksCardSaid : Prop := Claim7.holds Tryz.pinned (.plain (OpenSpec.ofChange fnBlocksSpec)) fnBlocksCard

/-- THE TIED CARD OF 'laws.FnBestBlock'. -/
def fnBestBlockCard : Claim7 := { stood := { row := fnBestBlockRow, standIns := [], harness := (true, "7c95b908e3834bb892325bb4dace315e2127f3de0f80c8aa9b641df5b7dd7824"), looks := true }, kinds := [], alts := [], laidByText := true, laidKinds := [.data], laidTests := true, laidLooks := .later }
def FnBestBlockCardSaid : Prop := Claim7.holds Tryz.pinned (.plain (OpenSpec.ofChange fnBestBlockSpec)) fnBestBlockCard

/-- THE TIED CARD OF 'laws.FnExactWovenBlock'. -/
def fnExactWovenBlockCard : Claim7 := { stood := { row := fnExactWovenBlockRow, standIns := [], harness := (true, "7c95b908e3834bb892325bb4dace315e2127f3de0f80c8aa9b641df5b7dd7824"), looks := true }, kinds := [], alts := [], laidByText := true, laidKinds := [.data], laidTests := true, laidLooks := .later }
def FnExactWovenBlockCardSaid : Prop := Claim7.holds Tryz.pinned (.plain (OpenSpec.ofChange fnExactWovenBlockSpec)) fnExactWovenBlockCard

/-- THE SECOND FORM's CARD OF 'laws.FnBlocks'. -/
def fnBlocksUptoCard : Claim7 := { stood := { row := fnBlocksUptoRow, standIns := [], harness := (true, "7c95b908e3834bb892325bb4dace315e2127f3de0f80c8aa9b641df5b7dd7824"), looks := true }, kinds := [], alts := [], laidByText := true, laidKinds := [.handle, .data], laidTests := true, laidLooks := .later }
def FnBlocksUptoCardSaid : Prop := Claim7.holds Tryz.pinned (.plain (OpenSpec.upto fnBlocksSpec)) fnBlocksUptoCard

/-- THE SECOND FORM's CARD OF 'laws.FnBestBlock'. -/
def fnBestBlockUptoCard : Claim7 := { stood := { row := fnBestBlockUptoRow, standIns := [], harness := (true, "7c95b908e3834bb892325bb4dace315e2127f3de0f80c8aa9b641df5b7dd7824"), looks := true }, kinds := [], alts := [], laidByText := true, laidKinds := [.data], laidTests := true, laidLooks := .later }
def FnBestBlockUptoCardSaid : Prop := Claim7.holds Tryz.pinned (.plain (OpenSpec.upto fnBestBlockSpec)) fnBestBlockUptoCard

/-- THE SECOND FORM's CARD OF 'laws.FnExactWovenBlock'. -/
def fnExactWovenBlockUptoCard : Claim7 := { stood := { row := fnExactWovenBlockUptoRow, standIns := [], harness := (true, "7c95b908e3834bb892325bb4dace315e2127f3de0f80c8aa9b641df5b7dd7824"), looks := true }, kinds := [], alts := [], laidByText := true, laidKinds := [.data], laidTests := true, laidLooks := .later }
def FnExactWovenBlockUptoCardSaid : Prop := Claim7.holds Tryz.pinned (.plain (OpenSpec.upto fnExactWovenBlockSpec)) fnExactWovenBlockUptoCard
end Rows
end Go.Proofs.YtbcnlggkoidmmaaGreatDoor
