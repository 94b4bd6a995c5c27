/-
  DERIVED. GIVEN WITH THE SEED: THE CARDS: each row of YtcbbcadfolgioaaDoorRows.lean that lists a variable, with what it lists TIED to the program's text (the seventh form; the later family's looks); each row that meets fmt, with fmt's text TOLD by the authors' own Lean function (tested against real Go, not proved from fmt's source: count such statements apart). THE CARD IS WHAT COUNTS. Prove the row's statement (the work); the ties are given (YtcbbcadfolgioaaDoorTie.lean); close each card by the builder's one call (the guide's Derived/Test/ToyasCard.lean, 'card_holds'). Laid BY PROGRAM, IN A SANDBOX (cutbox-door.mjs). By AI agents, Wed Nov 11 2026. No macro, syntax, notation, axiom, sorry.
-/
import Derived.Test.YtcbbcadfolgioaaDoorRows
import GoSem.ClaimSeven
namespace Go.Proofs.YtcbbcadfolgioaaDoor
namespace Rows

/-- THE TIED CARD OF 'laws.FnPasses'. -/
def fnPassesCard : Claim7 := { stood := { row := fnPassesRow, standIns := [], harness := (true, "e58a0c31d09b7e33bc26db0f7bcf41a7663846e009345226046b2e32cbe4a0e7"), looks := false }, kinds := [], alts := [], laidByText := true, laidKinds := [.data], laidTests := true, laidLooks := .later }
def FnPassesCardSaid : Prop := Claim7.holds Tryd.pinned (.plain (OpenSpec.ofChange fnPassesSpec)) fnPassesCard

/-- THE TIED CARD OF 'laws.FnScans'. -/
def fnScansCard : Claim7 := { stood := { row := fnScansRow, standIns := [], harness := (true, "e58a0c31d09b7e33bc26db0f7bcf41a7663846e009345226046b2e32cbe4a0e7"), looks := false }, kinds := [], alts := [], laidByText := true, laidKinds := [.data], laidTests := true, laidLooks := .later }
def FnScansCardSaid : Prop := Claim7.holds Tryd.pinned (.plain (OpenSpec.ofChange fnScansSpec)) fnScansCard

/-- THE TIED CARD OF 'laws.FnExactPassesOf'. -/
def fnExactPassesOfCard : Claim7 := { stood := { row := fnExactPassesOfRow, standIns := [], harness := (true, "e58a0c31d09b7e33bc26db0f7bcf41a7663846e009345226046b2e32cbe4a0e7"), looks := false }, kinds := [], alts := [], laidByText := true, laidKinds := [.data], laidTests := true, laidLooks := .later }
def FnExactPassesOfCardSaid : Prop := Claim7.holds Tryd.pinned (.plain (OpenSpec.ofChange fnExactPassesOfSpec)) fnExactPassesOfCard

/-- THE TIED CARD OF 'laws.FnExactFromPasses'. -/
def fnExactFromPassesCard : Claim7 := { stood := { row := fnExactFromPassesRow, standIns := [], harness := (true, "e58a0c31d09b7e33bc26db0f7bcf41a7663846e009345226046b2e32cbe4a0e7"), looks := false }, kinds := [], alts := [], laidByText := true, laidKinds := [.data], laidTests := true, laidLooks := .later }
def FnExactFromPassesCardSaid : Prop := Claim7.holds Tryd.pinned (.plain (OpenSpec.ofChange fnExactFromPassesSpec)) fnExactFromPassesCard

/-- THE TIED CARD OF 'laws.FnExactScanOf'. -/
def fnExactScanOfCard : Claim7 := { stood := { row := fnExactScanOfRow, standIns := [], harness := (true, "e58a0c31d09b7e33bc26db0f7bcf41a7663846e009345226046b2e32cbe4a0e7"), looks := false }, kinds := [], alts := [], laidByText := true, laidKinds := [.data], laidTests := true, laidLooks := .later }
def FnExactScanOfCardSaid : Prop := Claim7.holds Tryd.pinned (.plain (OpenSpec.ofChange fnExactScanOfSpec)) fnExactScanOfCard

/-- THE TIED CARD OF 'laws.FnExactScanRead'. -/
def fnExactScanReadCard : Claim7 := { stood := { row := fnExactScanReadRow, standIns := [], harness := (true, "e58a0c31d09b7e33bc26db0f7bcf41a7663846e009345226046b2e32cbe4a0e7"), looks := false }, kinds := [], alts := [], laidByText := true, laidKinds := [.data], laidTests := true, laidLooks := .later }
def FnExactScanReadCardSaid : Prop := Claim7.holds Tryd.pinned (.plain (OpenSpec.ofChange fnExactScanReadSpec)) fnExactScanReadCard

/-- THE SECOND FORM's CARD OF 'laws.FnPasses'. -/
def fnPassesUptoCard : Claim7 := { stood := { row := fnPassesUptoRow, standIns := [], harness := (true, "e58a0c31d09b7e33bc26db0f7bcf41a7663846e009345226046b2e32cbe4a0e7"), looks := false }, kinds := [], alts := [], laidByText := true, laidKinds := [.data], laidTests := true, laidLooks := .later }
def FnPassesUptoCardSaid : Prop := Claim7.holds Tryd.pinned (.plain (OpenSpec.upto fnPassesSpec)) fnPassesUptoCard

/-- THE SECOND FORM's CARD OF 'laws.FnScans'. -/
def fnScansUptoCard : Claim7 := { stood := { row := fnScansUptoRow, standIns := [], harness := (true, "e58a0c31d09b7e33bc26db0f7bcf41a7663846e009345226046b2e32cbe4a0e7"), looks := false }, kinds := [], alts := [], laidByText := true, laidKinds := [.data], laidTests := true, laidLooks := .later }
def FnScansUptoCardSaid : Prop := Claim7.holds Tryd.pinned (.plain (OpenSpec.upto fnScansSpec)) fnScansUptoCard

/-- THE SECOND FORM's CARD OF 'laws.FnExactPassesOf'. -/
def fnExactPassesOfUptoCard : Claim7 := { stood := { row := fnExactPassesOfUptoRow, standIns := [], harness := (true, "e58a0c31d09b7e33bc26db0f7bcf41a7663846e009345226046b2e32cbe4a0e7"), looks := false }, kinds := [], alts := [], laidByText := true, laidKinds := [.data], laidTests := true, laidLooks := .later }
def FnExactPassesOfUptoCardSaid : Prop := Claim7.holds Tryd.pinned (.plain (OpenSpec.upto fnExactPassesOfSpec)) fnExactPassesOfUptoCard

/-- THE SECOND FORM's CARD OF 'laws.FnExactFromPasses'. -/
def fnExactFromPassesUptoCard : Claim7 := { stood := { row := fnExactFromPassesUptoRow, standIns := [], harness := (true, "e58a0c31d09b7e33bc26db0f7bcf41a7663846e009345226046b2e32cbe4a0e7"), looks := false }, kinds := [], alts := [], laidByText := true, laidKinds := [.data], laidTests := true, laidLooks := .later }
def FnExactFromPassesUptoCardSaid : Prop := Claim7.holds Tryd.pinned (.plain (OpenSpec.upto fnExactFromPassesSpec)) fnExactFromPassesUptoCard

/-- THE SECOND FORM's CARD OF 'laws.FnExactScanOf'. -/
def fnExactScanOfUptoCard : Claim7 := { stood := { row := fnExactScanOfUptoRow, standIns := [], harness := (true, "e58a0c31d09b7e33bc26db0f7bcf41a7663846e009345226046b2e32cbe4a0e7"), looks := false }, kinds := [], alts := [], laidByText := true, laidKinds := [.data], laidTests := true, laidLooks := .later }
def FnExactScanOfUptoCardSaid : Prop := Claim7.holds Tryd.pinned (.plain (OpenSpec.upto fnExactScanOfSpec)) fnExactScanOfUptoCard

/-- THE SECOND FORM's CARD OF 'laws.FnExactScanRead'. -/
def fnExactScanReadUptoCard : Claim7 := { stood := { row := fnExactScanReadUptoRow, standIns := [], harness := (true, "e58a0c31d09b7e33bc26db0f7bcf41a7663846e009345226046b2e32cbe4a0e7"), looks := false }, kinds := [], alts := [], laidByText := true, laidKinds := [.data], laidTests := true, laidLooks := .later }
def FnExactScanReadUptoCardSaid : Prop := Claim7.holds Tryd.pinned (.plain (OpenSpec.upto fnExactScanReadSpec)) fnExactScanReadUptoCard
end Rows
end Go.Proofs.YtcbbcadfolgioaaDoor
