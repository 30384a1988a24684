/-
  DERIVED. GIVEN WITH THE SEED: THE PROGRAM's TIES (one call each: nine closed facts by the kernel) AND EACH ROW's TIE, after the 31st guide's Derived/Test/Toyas{Tie, Card}.lean. No idea stands in it: it is a product of the set-up. Laid BY PROGRAM, IN A SANDBOX (cutbox-door.mjs). By AI agents, Wed Nov 11 2026. No macro, syntax, notation, axiom, sorry.
-/
import Derived.Test.YtddiccdfeckgaaaDoorRows
import Derived.LaidByTextLater
import Derived.SevenTiedAt
import Derived.LaidSub
import Derived.LaidOnce
namespace Go.Proofs.YtddiccdfeckgaaaDoor
open Go
set_option maxRecDepth 100000
theorem seatTie1 : Tryd.prog.laidByTextLater [("celluloid/inflate.repeats", Rows.laid_celluloid_inflate_repeats), ("celluloid/inflate.order", Rows.laid_celluloid_inflate_order), ("celluloid/inflate.lengthSpans", Rows.laid_celluloid_inflate_lengthSpans), ("celluloid/inflate.distanceSpans", Rows.laid_celluloid_inflate_distanceSpans)] [.data, .data, .data, .data] true :=
  Program.laidByTextLater_by_one 91 8 61 (by kernel_rfl) (by kernel_rfl) (by kernel_rfl) (by kernel_rfl) (by kernel_rfl) (by kernel_rfl) (fun _ _ => by kernel_rfl)
theorem noOwnUnsafe : Tryd.pinned.checked.prog.headLifts.contains "ownunsafe" = false := by kernel_rfl
theorem tie : Tryd.prog.laidByTextLater [("celluloid/inflate.repeats", Rows.laid_celluloid_inflate_repeats), ("celluloid/inflate.order", Rows.laid_celluloid_inflate_order), ("celluloid/inflate.lengthSpans", Rows.laid_celluloid_inflate_lengthSpans), ("celluloid/inflate.distanceSpans", Rows.laid_celluloid_inflate_distanceSpans)] [.data, .data, .data, .data] true :=
  Program.laidByTextLater.sub seatTie1 ["celluloid/inflate.repeats", "celluloid/inflate.order", "celluloid/inflate.lengthSpans", "celluloid/inflate.distanceSpans"] (by kernel_rfl) (by kernel_rfl)
theorem inflateRaw_row_tie : Rows.inflateRawRow.laidByTextAt .later Tryd.pinned [.data, .data, .data, .data] true :=
  OpenClaim.laidByTextAt_later rfl rfl tie noOwnUnsafe
theorem inflateOpens_row_tie : Rows.inflateOpensRow.laidByTextAt .later Tryd.pinned [.data, .data, .data, .data] true :=
  OpenClaim.laidByTextAt_later rfl rfl tie noOwnUnsafe
theorem deflateBack_row_tie : Rows.deflateBackRow.laidByTextAt .later Tryd.pinned [.data, .data, .data, .data] true :=
  OpenClaim.laidByTextAt_later rfl rfl tie noOwnUnsafe
theorem deflateLong_row_tie : Rows.deflateLongRow.laidByTextAt .later Tryd.pinned [.data, .data, .data, .data] true :=
  OpenClaim.laidByTextAt_later rfl rfl tie noOwnUnsafe
theorem inflateRawUpto_row_tie : Rows.inflateRawUptoRow.laidByTextAt .later Tryd.pinned [.data, .data, .data, .data] true :=
  OpenClaim.laidByTextAt_later rfl rfl tie noOwnUnsafe
theorem inflateOpensUpto_row_tie : Rows.inflateOpensUptoRow.laidByTextAt .later Tryd.pinned [.data, .data, .data, .data] true :=
  OpenClaim.laidByTextAt_later rfl rfl tie noOwnUnsafe
theorem deflateBackUpto_row_tie : Rows.deflateBackUptoRow.laidByTextAt .later Tryd.pinned [.data, .data, .data, .data] true :=
  OpenClaim.laidByTextAt_later rfl rfl tie noOwnUnsafe
theorem deflateLongUpto_row_tie : Rows.deflateLongUptoRow.laidByTextAt .later Tryd.pinned [.data, .data, .data, .data] true :=
  OpenClaim.laidByTextAt_later rfl rfl tie noOwnUnsafe
end Go.Proofs.YtddiccdfeckgaaaDoor
