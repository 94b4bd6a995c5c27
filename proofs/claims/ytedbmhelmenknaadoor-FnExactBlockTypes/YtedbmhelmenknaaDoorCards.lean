/-
  DERIVED. GIVEN WITH THE SEED: THE CARDS: each row of YtedbmhelmenknaaDoorRows.lean that lists a variable, with what it lists TIED to the program's text (the seventh form; the later family's looks); each row that meets fmt, with fmt's text TOLD by the authors' own Lean function (tested against real Go, not proved from fmt's source: count such statements apart). THE CARD IS WHAT COUNTS. Prove the row's statement (the work); the ties are given (YtedbmhelmenknaaDoorTie.lean); close each card by the builder's one call (the guide's Derived/Test/ToyasCard.lean, 'card_holds'). Laid BY PROGRAM, IN A SANDBOX (cutbox-door.mjs). By AI agents, Wed Nov 11 2026. No macro, syntax, notation, axiom, sorry.
-/
import Derived.Test.YtedbmhelmenknaaDoorRows
import GoSem.ClaimSeven
namespace Go.Proofs.YtedbmhelmenknaaDoor
namespace Rows

/-- THE TIED CARD OF 'laws.FnExactInflate'. -/
def fnExactInflateCard : Claim7 := { stood := { row := fnExactInflateRow, standIns := [], harness := (true, "94c316b2a095483dcc450cae4ba3d788739152a4547e0ed079822be4274b2c2e"), looks := true }, kinds := [], alts := [], laidByText := true, laidKinds := [.handle, .data], laidTests := true, laidLooks := .later }
def FnExactInflateCardSaid : Prop := Claim7.holds Tryd.pinned (.plain (OpenSpec.ofChange fnExactInflateSpec)) fnExactInflateCard

/-- THE TIED CARD OF 'laws.FnExactBlockTypes'. -/
def fnExactBlockTypesCard : Claim7 := { stood := { row := fnExactBlockTypesRow, standIns := [], harness := (true, "94c316b2a095483dcc450cae4ba3d788739152a4547e0ed079822be4274b2c2e"), looks := true }, kinds := [], alts := [], laidByText := true, laidKinds := [.data], laidTests := true, laidLooks := .later }
def FnExactBlockTypesCardSaid : Prop := Claim7.holds Tryd.pinned (.plain (OpenSpec.ofChange fnExactBlockTypesSpec)) fnExactBlockTypesCard

/-- THE SECOND FORM's CARD OF 'laws.FnExactInflate'. -/
def fnExactInflateUptoCard : Claim7 := { stood := { row := fnExactInflateUptoRow, standIns := [], harness := (true, "94c316b2a095483dcc450cae4ba3d788739152a4547e0ed079822be4274b2c2e"), looks := true }, kinds := [], alts := [], laidByText := true, laidKinds := [.handle, .data], laidTests := true, laidLooks := .later }
def FnExactInflateUptoCardSaid : Prop := Claim7.holds Tryd.pinned (.plain (OpenSpec.upto fnExactInflateSpec)) fnExactInflateUptoCard

/-- THE SECOND FORM's CARD OF 'laws.FnExactBlockTypes'. -/
def fnExactBlockTypesUptoCard : Claim7 := { stood := { row := fnExactBlockTypesUptoRow, standIns := [], harness := (true, "94c316b2a095483dcc450cae4ba3d788739152a4547e0ed079822be4274b2c2e"), looks := true }, kinds := [], alts := [], laidByText := true, laidKinds := [.data], laidTests := true, laidLooks := .later }
def FnExactBlockTypesUptoCardSaid : Prop := Claim7.holds Tryd.pinned (.plain (OpenSpec.upto fnExactBlockTypesSpec)) fnExactBlockTypesUptoCard
end Rows
end Go.Proofs.YtedbmhelmenknaaDoor
