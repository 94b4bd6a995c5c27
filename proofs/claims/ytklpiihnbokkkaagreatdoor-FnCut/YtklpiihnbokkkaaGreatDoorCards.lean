/-
  DERIVED. GIVEN WITH THE SEED: THE CARDS: each row of YtklpiihnbokkkaaGreatDoorRows.lean that lists a variable, with what it lists TIED to the program's text (the seventh form; the later family's looks); each row that meets fmt, with fmt's text TOLD by the authors' own Lean function (tested against real Go, not proved from fmt's source: count such statements apart). THE CARD IS WHAT COUNTS. Prove the row's statement (the work); the ties are given (YtklpiihnbokkkaaGreatDoorTie.lean); close each card by the builder's one call (the guide's Derived/Test/ToyasCard.lean, 'card_holds'). Laid BY PROGRAM, IN A SANDBOX (cutbox-door.mjs). By AI agents, Wed Nov 11 2026. No macro, syntax, notation, axiom, sorry.
-/
import Derived.Test.YtklpiihnbokkkaaGreatDoorRows
import GoSem.ClaimSeven
namespace Go.Proofs.YtklpiihnbokkkaaGreatDoor
namespace Rows

/-- THE TIED CARD OF 'laws.FnCut'. -/
def fnCutCard : Claim7 := { stood := { row := fnCutRow, standIns := [], harness := (true, "74085917d1b2132e5735cba97cc56d84ac2efd4aec9ee3fede4d19a623740655"), looks := true }, kinds := [], alts := [], laidByText := true, laidKinds := [.handle, .data], laidTests := true, laidLooks := .later }
def FnCutCardSaid : Prop := Claim7.holds Tryz.pinned (.plain (OpenSpec.ofChange fnCutSpec)) fnCutCard

/-- THE TIED CARD OF 'laws.FnZlib'. -/
def fnZlibCard : Claim7 := { stood := { row := fnZlibRow, standIns := [], harness := (true, "74085917d1b2132e5735cba97cc56d84ac2efd4aec9ee3fede4d19a623740655"), looks := true }, kinds := [], alts := [], laidByText := true, laidKinds := [.handle, .data], laidTests := true, laidLooks := .later }
def FnZlibCardSaid : Prop := Claim7.holds Tryz.pinned (.plain (OpenSpec.ofChange fnZlibSpec)) fnZlibCard

/-- THE TIED CARD OF 'laws.FnExactDeflate'. -/
def fnExactDeflateCard : Claim7 := { stood := { row := fnExactDeflateRow, standIns := [], harness := (true, "74085917d1b2132e5735cba97cc56d84ac2efd4aec9ee3fede4d19a623740655"), looks := true }, kinds := [], alts := [], laidByText := true, laidKinds := [.data], laidTests := true, laidLooks := .later }
def FnExactDeflateCardSaid : Prop := Claim7.holds Tryz.pinned (.plain (OpenSpec.ofChange fnExactDeflateSpec)) fnExactDeflateCard

/-- THE TIED CARD OF 'laws.FnExactZlibOf'. -/
def fnExactZlibOfCard : Claim7 := { stood := { row := fnExactZlibOfRow, standIns := [], harness := (true, "74085917d1b2132e5735cba97cc56d84ac2efd4aec9ee3fede4d19a623740655"), looks := true }, kinds := [], alts := [], laidByText := true, laidKinds := [.data], laidTests := true, laidLooks := .later }
def FnExactZlibOfCardSaid : Prop := Claim7.holds Tryz.pinned (.plain (OpenSpec.ofChange fnExactZlibOfSpec)) fnExactZlibOfCard

/-- THE SECOND FORM's CARD OF 'laws.FnCut'. -/
def fnCutUptoCard : Claim7 := { stood := { row := fnCutUptoRow, standIns := [], harness := (true, "74085917d1b2132e5735cba97cc56d84ac2efd4aec9ee3fede4d19a623740655"), looks := true }, kinds := [], alts := [], laidByText := true, laidKinds := [.handle, .data], laidTests := true, laidLooks := .later }
def FnCutUptoCardSaid : Prop := Claim7.holds Tryz.pinned (.plain (OpenSpec.upto fnCutSpec)) fnCutUptoCard

/-- THE SECOND FORM's CARD OF 'laws.FnZlib'. -/
def fnZlibUptoCard : Claim7 := { stood := { row := fnZlibUptoRow, standIns := [], harness := (true, "74085917d1b2132e5735cba97cc56d84ac2efd4aec9ee3fede4d19a623740655"), looks := true }, kinds := [], alts := [], laidByText := true, laidKinds := [.handle, .data], laidTests := true, laidLooks := .later }
def FnZlibUptoCardSaid : Prop := Claim7.holds Tryz.pinned (.plain (OpenSpec.upto fnZlibSpec)) fnZlibUptoCard

/-- THE SECOND FORM's CARD OF 'laws.FnExactDeflate'. -/
def fnExactDeflateUptoCard : Claim7 := { stood := { row := fnExactDeflateUptoRow, standIns := [], harness := (true, "74085917d1b2132e5735cba97cc56d84ac2efd4aec9ee3fede4d19a623740655"), looks := true }, kinds := [], alts := [], laidByText := true, laidKinds := [.data], laidTests := true, laidLooks := .later }
def FnExactDeflateUptoCardSaid : Prop := Claim7.holds Tryz.pinned (.plain (OpenSpec.upto fnExactDeflateSpec)) fnExactDeflateUptoCard

/-- THE SECOND FORM's CARD OF 'laws.FnExactZlibOf'. -/
def fnExactZlibOfUptoCard : Claim7 := { stood := { row := fnExactZlibOfUptoRow, standIns := [], harness := (true, "74085917d1b2132e5735cba97cc56d84ac2efd4aec9ee3fede4d19a623740655"), looks := true }, kinds := [], alts := [], laidByText := true, laidKinds := [.data], laidTests := true, laidLooks := .later }
def FnExactZlibOfUptoCardSaid : Prop := Claim7.holds Tryz.pinned (.plain (OpenSpec.upto fnExactZlibOfSpec)) fnExactZlibOfUptoCard
end Rows
end Go.Proofs.YtklpiihnbokkkaaGreatDoor
