/-
  DERIVED. GIVEN WITH THE SEED: THE CARDS: each row of YtdpfnkcogneanaaDoorRows.lean that lists a variable, with what it lists TIED to the program's text (the seventh form; the later family's looks); each row that meets fmt, with fmt's text TOLD by the authors' own Lean function (tested against real Go, not proved from fmt's source: count such statements apart). THE CARD IS WHAT COUNTS. Prove the row's statement (the work); the ties are given (YtdpfnkcogneanaaDoorTie.lean); close each card by the builder's one call (the guide's Derived/Test/ToyasCard.lean, 'card_holds'). Laid BY PROGRAM, IN A SANDBOX (cutbox-door.mjs). By AI agents, Wed Nov 11 2026. No macro, syntax, notation, axiom, sorry.
-/
import Derived.Test.YtdpfnkcogneanaaDoorRows
import GoSem.ClaimSeven
namespace Go.Proofs.YtdpfnkcogneanaaDoor
namespace Rows

/-- THE TIED CARD OF 'laws.FnScans'. -/
def fnScansCard : Claim7 := { stood := { row := fnScansRow, standIns := [], harness := (true, "60d34cd045a4665882112c950f55bcd3e6aa04ac495724f85319c8d00e1a461c"), looks := false }, kinds := [], alts := [], laidByText := true, laidKinds := [.data], laidTests := true, laidLooks := .later }
def FnScansCardSaid : Prop := Claim7.holds Tryd.pinned (.plain (OpenSpec.ofChange fnScansSpec)) fnScansCard

/-- THE TIED CARD OF 'laws.FnExactScanOf'. -/
def fnExactScanOfCard : Claim7 := { stood := { row := fnExactScanOfRow, standIns := [], harness := (true, "60d34cd045a4665882112c950f55bcd3e6aa04ac495724f85319c8d00e1a461c"), looks := false }, kinds := [], alts := [], laidByText := true, laidKinds := [.data], laidTests := true, laidLooks := .later }
def FnExactScanOfCardSaid : Prop := Claim7.holds Tryd.pinned (.plain (OpenSpec.ofChange fnExactScanOfSpec)) fnExactScanOfCard

/-- THE TIED CARD OF 'laws.FnExactScanBytes'. -/
def fnExactScanBytesCard : Claim7 := { stood := { row := fnExactScanBytesRow, standIns := [], harness := (true, "60d34cd045a4665882112c950f55bcd3e6aa04ac495724f85319c8d00e1a461c"), looks := false }, kinds := [], alts := [], laidByText := true, laidKinds := [.data], laidTests := true, laidLooks := .later }
def FnExactScanBytesCardSaid : Prop := Claim7.holds Tryd.pinned (.plain (OpenSpec.ofChange fnExactScanBytesSpec)) fnExactScanBytesCard

/-- THE TIED CARD OF 'laws.FnExactScanRead'. -/
def fnExactScanReadCard : Claim7 := { stood := { row := fnExactScanReadRow, standIns := [], harness := (true, "60d34cd045a4665882112c950f55bcd3e6aa04ac495724f85319c8d00e1a461c"), looks := false }, kinds := [], alts := [], laidByText := true, laidKinds := [.data], laidTests := true, laidLooks := .later }
def FnExactScanReadCardSaid : Prop := Claim7.holds Tryd.pinned (.plain (OpenSpec.ofChange fnExactScanReadSpec)) fnExactScanReadCard

/-- THE SECOND FORM's CARD OF 'laws.FnScans'. -/
def fnScansUptoCard : Claim7 := { stood := { row := fnScansUptoRow, standIns := [], harness := (true, "60d34cd045a4665882112c950f55bcd3e6aa04ac495724f85319c8d00e1a461c"), looks := false }, kinds := [], alts := [], laidByText := true, laidKinds := [.data], laidTests := true, laidLooks := .later }
def FnScansUptoCardSaid : Prop := Claim7.holds Tryd.pinned (.plain (OpenSpec.upto fnScansSpec)) fnScansUptoCard

/-- THE SECOND FORM's CARD OF 'laws.FnExactScanOf'. -/
def fnExactScanOfUptoCard : Claim7 := { stood := { row := fnExactScanOfUptoRow, standIns := [], harness := (true, "60d34cd045a4665882112c950f55bcd3e6aa04ac495724f85319c8d00e1a461c"), looks := false }, kinds := [], alts := [], laidByText := true, laidKinds := [.data], laidTests := true, laidLooks := .later }
def FnExactScanOfUptoCardSaid : Prop := Claim7.holds Tryd.pinned (.plain (OpenSpec.upto fnExactScanOfSpec)) fnExactScanOfUptoCard

/-- THE SECOND FORM's CARD OF 'laws.FnExactScanBytes'. -/
def fnExactScanBytesUptoCard : Claim7 := { stood := { row := fnExactScanBytesUptoRow, standIns := [], harness := (true, "60d34cd045a4665882112c950f55bcd3e6aa04ac495724f85319c8d00e1a461c"), looks := false }, kinds := [], alts := [], laidByText := true, laidKinds := [.data], laidTests := true, laidLooks := .later }
def FnExactScanBytesUptoCardSaid : Prop := Claim7.holds Tryd.pinned (.plain (OpenSpec.upto fnExactScanBytesSpec)) fnExactScanBytesUptoCard

/-- THE SECOND FORM's CARD OF 'laws.FnExactScanRead'. -/
def fnExactScanReadUptoCard : Claim7 := { stood := { row := fnExactScanReadUptoRow, standIns := [], harness := (true, "60d34cd045a4665882112c950f55bcd3e6aa04ac495724f85319c8d00e1a461c"), looks := false }, kinds := [], alts := [], laidByText := true, laidKinds := [.data], laidTests := true, laidLooks := .later }
def FnExactScanReadUptoCardSaid : Prop := Claim7.holds Tryd.pinned (.plain (OpenSpec.upto fnExactScanReadSpec)) fnExactScanReadUptoCard
end Rows
end Go.Proofs.YtdpfnkcogneanaaDoor
