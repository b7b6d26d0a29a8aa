/-
  DERIVED. GIVEN WITH THE SEED: THE PROGRAM's TIES (one call each: nine closed facts by the kernel) AND EACH ROW's TIE, after the 31st guide's Derived/Test/Toyas{Tie, Card}.lean. No idea stands in it: it is a product of the set-up. Laid BY PROGRAM, IN A SANDBOX (cutbox-door.mjs). By AI agents, Wed Nov 11 2026. No macro, syntax, notation, axiom, sorry.
-/
import Derived.Test.YtjabhnhejbhgjaaDoorRows
import Derived.LaidByTextLater
import Derived.SevenTiedAt
import Derived.LaidSub
import Derived.LaidOnce
namespace Go.Proofs.YtjabhnhejbhgjaaDoor
open Go
set_option maxRecDepth 100000
theorem seatTie1 : Tryd.prog.laidByTextLater [("errors.errorType", Rows.laid_errors_errorType), ("murmur/api.ErrConfig", Rows.laid_murmur_api_ErrConfig), ("murmur/api.ErrArg", Rows.laid_murmur_api_ErrArg), ("murmur/api.ErrFull", Rows.laid_murmur_api_ErrFull), ("murmur/api.ErrShort", Rows.laid_murmur_api_ErrShort), ("murmur/api.ErrType", Rows.laid_murmur_api_ErrType), ("murmur/api.ErrField", Rows.laid_murmur_api_ErrField), ("murmur/api.ErrLong", Rows.laid_murmur_api_ErrLong), ("murmur/api.ErrClosed", Rows.laid_murmur_api_ErrClosed)] [.handle, .sentinel, .sentinel, .sentinel, .sentinel, .sentinel, .sentinel, .sentinel, .sentinel] true :=
  Program.laidByTextLater_by_one 168 8 2 (by kernel_rfl) (by kernel_rfl) (by kernel_rfl) (by kernel_rfl) (by kernel_rfl) (by kernel_rfl) (fun _ _ => by kernel_rfl)
theorem noOwnUnsafe : Tryd.pinned.checked.prog.headLifts.contains "ownunsafe" = false := by kernel_rfl
theorem tie : Tryd.prog.laidByTextLater [("murmur/api.ErrConfig", Rows.laid_murmur_api_ErrConfig), ("murmur/api.ErrArg", Rows.laid_murmur_api_ErrArg), ("murmur/api.ErrFull", Rows.laid_murmur_api_ErrFull), ("murmur/api.ErrShort", Rows.laid_murmur_api_ErrShort), ("murmur/api.ErrType", Rows.laid_murmur_api_ErrType), ("murmur/api.ErrField", Rows.laid_murmur_api_ErrField), ("murmur/api.ErrLong", Rows.laid_murmur_api_ErrLong), ("murmur/api.ErrClosed", Rows.laid_murmur_api_ErrClosed)] [.sentinel, .sentinel, .sentinel, .sentinel, .sentinel, .sentinel, .sentinel, .sentinel] true :=
  Program.laidByTextLater.sub seatTie1 ["murmur/api.ErrConfig", "murmur/api.ErrArg", "murmur/api.ErrFull", "murmur/api.ErrShort", "murmur/api.ErrType", "murmur/api.ErrField", "murmur/api.ErrLong", "murmur/api.ErrClosed"] (by kernel_rfl) (by kernel_rfl)
theorem names_row_tie : Rows.namesRow.laidByTextAt .later Tryd.pinned [.sentinel, .sentinel, .sentinel, .sentinel, .sentinel, .sentinel, .sentinel, .sentinel] true :=
  OpenClaim.laidByTextAt_later rfl rfl tie noOwnUnsafe
theorem products_row_tie : Rows.productsRow.laidByTextAt .later Tryd.pinned [.sentinel, .sentinel, .sentinel, .sentinel, .sentinel, .sentinel, .sentinel, .sentinel] true :=
  OpenClaim.laidByTextAt_later rfl rfl tie noOwnUnsafe
theorem tie2 : Tryd.prog.laidByTextLater [("murmur/api.ErrArg", Rows.laid_murmur_api_ErrArg)] [.sentinel] true :=
  Program.laidByTextLater.sub seatTie1 ["murmur/api.ErrArg"] (by kernel_rfl) (by kernel_rfl)
theorem restored_row_tie : Rows.restoredRow.laidByTextAt .later Tryd.pinned [.sentinel] true :=
  OpenClaim.laidByTextAt_later rfl rfl tie2 noOwnUnsafe
theorem tie3 : Tryd.prog.laidByTextLater [("errors.errorType", Rows.laid_errors_errorType), ("murmur/api.ErrConfig", Rows.laid_murmur_api_ErrConfig), ("murmur/api.ErrArg", Rows.laid_murmur_api_ErrArg), ("murmur/api.ErrFull", Rows.laid_murmur_api_ErrFull), ("murmur/api.ErrShort", Rows.laid_murmur_api_ErrShort), ("murmur/api.ErrType", Rows.laid_murmur_api_ErrType), ("murmur/api.ErrField", Rows.laid_murmur_api_ErrField), ("murmur/api.ErrLong", Rows.laid_murmur_api_ErrLong), ("murmur/api.ErrClosed", Rows.laid_murmur_api_ErrClosed)] [.handle, .sentinel, .sentinel, .sentinel, .sentinel, .sentinel, .sentinel, .sentinel, .sentinel] true :=
  Program.laidByTextLater.sub seatTie1 ["errors.errorType", "murmur/api.ErrConfig", "murmur/api.ErrArg", "murmur/api.ErrFull", "murmur/api.ErrShort", "murmur/api.ErrType", "murmur/api.ErrField", "murmur/api.ErrLong", "murmur/api.ErrClosed"] (by kernel_rfl) (by kernel_rfl)
theorem packets_row_tie : Rows.packetsRow.laidByTextAt .later Tryd.pinned [.handle, .sentinel, .sentinel, .sentinel, .sentinel, .sentinel, .sentinel, .sentinel, .sentinel] true :=
  OpenClaim.laidByTextAt_later rfl rfl tie3 noOwnUnsafe
theorem namesUpto_row_tie : Rows.namesUptoRow.laidByTextAt .later Tryd.pinned [.sentinel, .sentinel, .sentinel, .sentinel, .sentinel, .sentinel, .sentinel, .sentinel] true :=
  OpenClaim.laidByTextAt_later rfl rfl tie noOwnUnsafe
theorem productsUpto_row_tie : Rows.productsUptoRow.laidByTextAt .later Tryd.pinned [.sentinel, .sentinel, .sentinel, .sentinel, .sentinel, .sentinel, .sentinel, .sentinel] true :=
  OpenClaim.laidByTextAt_later rfl rfl tie noOwnUnsafe
theorem restoredUpto_row_tie : Rows.restoredUptoRow.laidByTextAt .later Tryd.pinned [.sentinel] true :=
  OpenClaim.laidByTextAt_later rfl rfl tie2 noOwnUnsafe
theorem packetsUpto_row_tie : Rows.packetsUptoRow.laidByTextAt .later Tryd.pinned [.handle, .sentinel, .sentinel, .sentinel, .sentinel, .sentinel, .sentinel, .sentinel, .sentinel] true :=
  OpenClaim.laidByTextAt_later rfl rfl tie3 noOwnUnsafe
end Go.Proofs.YtjabhnhejbhgjaaDoor
