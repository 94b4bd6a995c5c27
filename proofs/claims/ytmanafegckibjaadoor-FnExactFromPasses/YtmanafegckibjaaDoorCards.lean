/-
  DERIVED. GIVEN WITH THE SEED: THE CARDS: each row of YtmanafegckibjaaDoorRows.lean that lists a variable, with what it lists TIED to the program's text (the seventh form; the later family's looks); each row that meets fmt, with fmt's text TOLD by the authors' own Lean function (tested against real Go, not proved from fmt's source: count such statements apart). THE CARD IS WHAT COUNTS. Prove the row's statement (the work); the ties are given (YtmanafegckibjaaDoorTie.lean); close each card by the builder's one call (the guide's Derived/Test/ToyasCard.lean, 'card_holds'). Laid BY PROGRAM, IN A SANDBOX (cutbox-door.mjs). By AI agents, Wed Nov 11 2026. No macro, syntax, notation, axiom, sorry.
-/
import Derived.Test.YtmanafegckibjaaDoorRows
import GoSem.ClaimSeven
namespace Go.Proofs.YtmanafegckibjaaDoor
namespace Rows

/-- THE TIED CARD OF 'laws.FnPasses'. -/
def fnPassesCard : Claim7 := { stood := { row := fnPassesRow, standIns := [], harness := (true, "1e94f316eb25356e850f8ae42891d8c2b760ebcee849ef51ca3e692479bad373"), looks := false }, kinds := [], alts := [], laidByText := true, laidKinds := [.data], laidTests := true, laidLooks := .later }
def FnPassesCardSaid : Prop := Claim7.holds Tryd.pinned (.plain (OpenSpec.ofChange fnPassesSpec)) fnPassesCard

/-- THE TIED CARD OF 'laws.FnExactPassStep'. -/
def fnExactPassStepCard : Claim7 := { stood := { row := fnExactPassStepRow, standIns := [], harness := (true, "1e94f316eb25356e850f8ae42891d8c2b760ebcee849ef51ca3e692479bad373"), looks := false }, kinds := [], alts := [], laidByText := true, laidKinds := [.data], laidTests := true, laidLooks := .later }
def FnExactPassStepCardSaid : Prop := Claim7.holds Tryd.pinned (.plain (OpenSpec.ofChange fnExactPassStepSpec)) fnExactPassStepCard

/-- THE TIED CARD OF 'laws.FnExactPassSize'. -/
def fnExactPassSizeCard : Claim7 := { stood := { row := fnExactPassSizeRow, standIns := [], harness := (true, "1e94f316eb25356e850f8ae42891d8c2b760ebcee849ef51ca3e692479bad373"), looks := false }, kinds := [], alts := [], laidByText := true, laidKinds := [.data], laidTests := true, laidLooks := .later }
def FnExactPassSizeCardSaid : Prop := Claim7.holds Tryd.pinned (.plain (OpenSpec.ofChange fnExactPassSizeSpec)) fnExactPassSizeCard

/-- THE TIED CARD OF 'laws.FnExactPassesOf'. -/
def fnExactPassesOfCard : Claim7 := { stood := { row := fnExactPassesOfRow, standIns := [], harness := (true, "1e94f316eb25356e850f8ae42891d8c2b760ebcee849ef51ca3e692479bad373"), looks := false }, kinds := [], alts := [], laidByText := true, laidKinds := [.data], laidTests := true, laidLooks := .later }
def FnExactPassesOfCardSaid : Prop := Claim7.holds Tryd.pinned (.plain (OpenSpec.ofChange fnExactPassesOfSpec)) fnExactPassesOfCard

/-- THE TIED CARD OF 'laws.FnExactFromPasses'. -/
def fnExactFromPassesCard : Claim7 := { stood := { row := fnExactFromPassesRow, standIns := [], harness := (true, "1e94f316eb25356e850f8ae42891d8c2b760ebcee849ef51ca3e692479bad373"), looks := false }, kinds := [], alts := [], laidByText := true, laidKinds := [.data], laidTests := true, laidLooks := .later }
def FnExactFromPassesCardSaid : Prop := Claim7.holds Tryd.pinned (.plain (OpenSpec.ofChange fnExactFromPassesSpec)) fnExactFromPassesCard

/-- THE SECOND FORM's CARD OF 'laws.FnPasses'. -/
def fnPassesUptoCard : Claim7 := { stood := { row := fnPassesUptoRow, standIns := [], harness := (true, "1e94f316eb25356e850f8ae42891d8c2b760ebcee849ef51ca3e692479bad373"), looks := false }, kinds := [], alts := [], laidByText := true, laidKinds := [.data], laidTests := true, laidLooks := .later }
def FnPassesUptoCardSaid : Prop := Claim7.holds Tryd.pinned (.plain (OpenSpec.upto fnPassesSpec)) fnPassesUptoCard

/-- THE SECOND FORM's CARD OF 'laws.FnExactPassStep'. -/
def fnExactPassStepUptoCard : Claim7 := { stood := { row := fnExactPassStepUptoRow, standIns := [], harness := (true, "1e94f316eb25356e850f8ae42891d8c2b760ebcee849ef51ca3e692479bad373"), looks := false }, kinds := [], alts := [], laidByText := true, laidKinds := [.data], laidTests := true, laidLooks := .later }
def FnExactPassStepUptoCardSaid : Prop := Claim7.holds Tryd.pinned (.plain (OpenSpec.upto fnExactPassStepSpec)) fnExactPassStepUptoCard

/-- THE SECOND FORM's CARD OF 'laws.FnExactPassSize'. -/
def fnExactPassSizeUptoCard : Claim7 := { stood := { row := fnExactPassSizeUptoRow, standIns := [], harness := (true, "1e94f316eb25356e850f8ae42891d8c2b760ebcee849ef51ca3e692479bad373"), looks := false }, kinds := [], alts := [], laidByText := true, laidKinds := [.data], laidTests := true, laidLooks := .later }
def FnExactPassSizeUptoCardSaid : Prop := Claim7.holds Tryd.pinned (.plain (OpenSpec.upto fnExactPassSizeSpec)) fnExactPassSizeUptoCard

/-- THE SECOND FORM's CARD OF 'laws.FnExactPassesOf'. -/
def fnExactPassesOfUptoCard : Claim7 := { stood := { row := fnExactPassesOfUptoRow, standIns := [], harness := (true, "1e94f316eb25356e850f8ae42891d8c2b760ebcee849ef51ca3e692479bad373"), looks := false }, kinds := [], alts := [], laidByText := true, laidKinds := [.data], laidTests := true, laidLooks := .later }
def FnExactPassesOfUptoCardSaid : Prop := Claim7.holds Tryd.pinned (.plain (OpenSpec.upto fnExactPassesOfSpec)) fnExactPassesOfUptoCard

/-- THE SECOND FORM's CARD OF 'laws.FnExactFromPasses'. -/
def fnExactFromPassesUptoCard : Claim7 := { stood := { row := fnExactFromPassesUptoRow, standIns := [], harness := (true, "1e94f316eb25356e850f8ae42891d8c2b760ebcee849ef51ca3e692479bad373"), looks := false }, kinds := [], alts := [], laidByText := true, laidKinds := [.data], laidTests := true, laidLooks := .later }
def FnExactFromPassesUptoCardSaid : Prop := Claim7.holds Tryd.pinned (.plain (OpenSpec.upto fnExactFromPassesSpec)) fnExactFromPassesUptoCard
end Rows
end Go.Proofs.YtmanafegckibjaaDoor
