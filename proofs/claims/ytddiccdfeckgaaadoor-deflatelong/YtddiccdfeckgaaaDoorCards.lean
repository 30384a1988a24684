/-
  DERIVED. GIVEN WITH THE SEED: THE CARDS: each row of YtddiccdfeckgaaaDoorRows.lean that lists a variable, with what it lists TIED to the program's text (the seventh form; the later family's looks); each row that meets fmt, with fmt's text TOLD by the authors' own Lean function (tested against real Go, not proved from fmt's source: count such statements apart). THE CARD IS WHAT COUNTS. Prove the row's statement (the work); the ties are given (YtddiccdfeckgaaaDoorTie.lean); close each card by the builder's one call (the guide's Derived/Test/ToyasCard.lean, 'card_holds'). Laid BY PROGRAM, IN A SANDBOX (cutbox-door.mjs). By AI agents, Wed Nov 11 2026. No macro, syntax, notation, axiom, sorry.
-/
import Derived.Test.YtddiccdfeckgaaaDoorRows
import GoSem.ClaimSeven
namespace Go.Proofs.YtddiccdfeckgaaaDoor
namespace Rows

/-- THE TIED CARD OF 'celluloidlaw05.InflateRaw'. -/
def inflateRawCard : Claim7 := { stood := { row := inflateRawRow, standIns := [], harness := (true, "f19eb48f47fafc14e9637028b89b310fc558bfe8f986d8335d8304f732770e22"), looks := false }, kinds := [], alts := [], laidByText := true, laidKinds := [.data, .data, .data, .data], laidTests := true, laidLooks := .later }
def InflateRawCardSaid : Prop := Claim7.holds Tryd.pinned (.plain (OpenSpec.ofChange inflateRawSpec)) inflateRawCard

/-- THE TIED CARD OF 'celluloidlaw05.InflateOpens'. -/
def inflateOpensCard : Claim7 := { stood := { row := inflateOpensRow, standIns := [], harness := (true, "f19eb48f47fafc14e9637028b89b310fc558bfe8f986d8335d8304f732770e22"), looks := false }, kinds := [], alts := [], laidByText := true, laidKinds := [.data, .data, .data, .data], laidTests := true, laidLooks := .later }
def InflateOpensCardSaid : Prop := Claim7.holds Tryd.pinned (.plain (OpenSpec.ofChange inflateOpensSpec)) inflateOpensCard

/-- THE TIED CARD OF 'celluloidlaw06.DeflateBack'. -/
def deflateBackCard : Claim7 := { stood := { row := deflateBackRow, standIns := [], harness := (true, "f19eb48f47fafc14e9637028b89b310fc558bfe8f986d8335d8304f732770e22"), looks := false }, kinds := [], alts := [], laidByText := true, laidKinds := [.data, .data, .data, .data], laidTests := true, laidLooks := .later }
def DeflateBackCardSaid : Prop := Claim7.holds Tryd.pinned (.plain (OpenSpec.ofChange deflateBackSpec)) deflateBackCard

/-- THE TIED CARD OF 'celluloidlaw06.DeflateLong'. -/
def deflateLongCard : Claim7 := { stood := { row := deflateLongRow, standIns := [], harness := (true, "f19eb48f47fafc14e9637028b89b310fc558bfe8f986d8335d8304f732770e22"), looks := false }, kinds := [], alts := [], laidByText := true, laidKinds := [.data, .data, .data, .data], laidTests := true, laidLooks := .later }
def DeflateLongCardSaid : Prop := Claim7.holds Tryd.pinned (.plain (OpenSpec.ofChange deflateLongSpec)) deflateLongCard

/-- THE SECOND FORM's CARD OF 'celluloidlaw05.InflateRaw'. -/
def inflateRawUptoCard : Claim7 := { stood := { row := inflateRawUptoRow, standIns := [], harness := (true, "f19eb48f47fafc14e9637028b89b310fc558bfe8f986d8335d8304f732770e22"), looks := false }, kinds := [], alts := [], laidByText := true, laidKinds := [.data, .data, .data, .data], laidTests := true, laidLooks := .later }
def InflateRawUptoCardSaid : Prop := Claim7.holds Tryd.pinned (.plain (OpenSpec.upto inflateRawSpec)) inflateRawUptoCard

/-- THE SECOND FORM's CARD OF 'celluloidlaw05.InflateOpens'. -/
def inflateOpensUptoCard : Claim7 := { stood := { row := inflateOpensUptoRow, standIns := [], harness := (true, "f19eb48f47fafc14e9637028b89b310fc558bfe8f986d8335d8304f732770e22"), looks := false }, kinds := [], alts := [], laidByText := true, laidKinds := [.data, .data, .data, .data], laidTests := true, laidLooks := .later }
def InflateOpensUptoCardSaid : Prop := Claim7.holds Tryd.pinned (.plain (OpenSpec.upto inflateOpensSpec)) inflateOpensUptoCard

/-- THE SECOND FORM's CARD OF 'celluloidlaw06.DeflateBack'. -/
def deflateBackUptoCard : Claim7 := { stood := { row := deflateBackUptoRow, standIns := [], harness := (true, "f19eb48f47fafc14e9637028b89b310fc558bfe8f986d8335d8304f732770e22"), looks := false }, kinds := [], alts := [], laidByText := true, laidKinds := [.data, .data, .data, .data], laidTests := true, laidLooks := .later }
def DeflateBackUptoCardSaid : Prop := Claim7.holds Tryd.pinned (.plain (OpenSpec.upto deflateBackSpec)) deflateBackUptoCard

/-- THE SECOND FORM's CARD OF 'celluloidlaw06.DeflateLong'. -/
def deflateLongUptoCard : Claim7 := { stood := { row := deflateLongUptoRow, standIns := [], harness := (true, "f19eb48f47fafc14e9637028b89b310fc558bfe8f986d8335d8304f732770e22"), looks := false }, kinds := [], alts := [], laidByText := true, laidKinds := [.data, .data, .data, .data], laidTests := true, laidLooks := .later }
def DeflateLongUptoCardSaid : Prop := Claim7.holds Tryd.pinned (.plain (OpenSpec.upto deflateLongSpec)) deflateLongUptoCard
end Rows
end Go.Proofs.YtddiccdfeckgaaaDoor
