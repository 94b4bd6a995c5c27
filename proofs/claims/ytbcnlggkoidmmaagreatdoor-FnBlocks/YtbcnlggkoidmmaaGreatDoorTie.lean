/-
  DERIVED. GIVEN WITH THE SEED: THE PROGRAM's TIES (one call each: nine closed facts by the kernel) AND EACH ROW's TIE, after the 31st guide's Derived/Test/Toyas{Tie, Card}.lean. No idea stands in it: it is a product of the set-up. Laid BY PROGRAM, IN A SANDBOX (cutbox-door.mjs). By AI agents, Wed Nov 11 2026. No macro, syntax, notation, axiom, sorry.
-/
import Derived.Test.YtbcnlggkoidmmaaGreatDoorRows
import Derived.LaidByTextLater
import Derived.SevenTiedAt
import Derived.LaidSub
import Derived.LaidOnce
namespace Go.Proofs.YtbcnlggkoidmmaaGreatDoor
open Go
set_option maxRecDepth 100000
theorem seatTie1 : Tryz.prog.laidByTextLater [("errors.errorType", Rows.laid_errors_errorType), ("loop.example/g00099/impl.thirdOrder", Rows.laid_loop_example_g00099_impl_thirdOrder)] [.handle, .data] true :=
  Program.laidByTextLater_by_one 21 8 20 (by kernel_rfl) (by kernel_rfl) (by kernel_rfl) (by kernel_rfl) (by kernel_rfl) (by kernel_rfl) (fun _ _ => by kernel_rfl)
theorem noOwnUnsafe : Tryz.pinned.checked.prog.headLifts.contains "ownunsafe" = false := by kernel_rfl
theorem tie : Tryz.prog.laidByTextLater [("errors.errorType", Rows.laid_errors_errorType), ("loop.example/g00099/impl.thirdOrder", Rows.laid_loop_example_g00099_impl_thirdOrder)] [.handle, .data] true :=
  Program.laidByTextLater.sub seatTie1 ["errors.errorType", "loop.example/g00099/impl.thirdOrder"] (by kernel_rfl) (by kernel_rfl)
theorem fnBlocks_row_tie : Rows.fnBlocksRow.laidByTextAt .later Tryz.pinned [.handle, .data] true :=
  OpenClaim.laidByTextAt_later rfl rfl tie noOwnUnsafe
theorem tie2 : Tryz.prog.laidByTextLater [("loop.example/g00099/impl.thirdOrder", Rows.laid_loop_example_g00099_impl_thirdOrder)] [.data] true :=
  Program.laidByTextLater.sub seatTie1 ["loop.example/g00099/impl.thirdOrder"] (by kernel_rfl) (by kernel_rfl)
theorem fnBestBlock_row_tie : Rows.fnBestBlockRow.laidByTextAt .later Tryz.pinned [.data] true :=
  OpenClaim.laidByTextAt_later rfl rfl tie2 noOwnUnsafe
theorem fnExactWovenBlock_row_tie : Rows.fnExactWovenBlockRow.laidByTextAt .later Tryz.pinned [.data] true :=
  OpenClaim.laidByTextAt_later rfl rfl tie2 noOwnUnsafe
theorem fnBlocksUpto_row_tie : Rows.fnBlocksUptoRow.laidByTextAt .later Tryz.pinned [.handle, .data] true :=
  OpenClaim.laidByTextAt_later rfl rfl tie noOwnUnsafe
theorem fnBestBlockUpto_row_tie : Rows.fnBestBlockUptoRow.laidByTextAt .later Tryz.pinned [.data] true :=
  OpenClaim.laidByTextAt_later rfl rfl tie2 noOwnUnsafe
theorem fnExactWovenBlockUpto_row_tie : Rows.fnExactWovenBlockUptoRow.laidByTextAt .later Tryz.pinned [.data] true :=
  OpenClaim.laidByTextAt_later rfl rfl tie2 noOwnUnsafe
end Go.Proofs.YtbcnlggkoidmmaaGreatDoor
