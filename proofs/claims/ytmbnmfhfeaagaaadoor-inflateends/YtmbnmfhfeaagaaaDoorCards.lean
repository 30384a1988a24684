/-
  DERIVED. GIVEN WITH THE SEED: THE CARDS: each row of YtmbnmfhfeaagaaaDoorRows.lean that lists a variable, with what it lists TIED to the program's text (the seventh form; the later family's looks); each row that meets fmt, with fmt's text TOLD by the authors' own Lean function (tested against real Go, not proved from fmt's source: count such statements apart). THE CARD IS WHAT COUNTS. Prove the row's statement (the work); the ties are given (YtmbnmfhfeaagaaaDoorTie.lean); close each card by the builder's one call (the guide's Derived/Test/ToyasCard.lean, 'card_holds'). Laid BY PROGRAM, IN A SANDBOX (cutbox-door.mjs). By AI agents, Wed Nov 11 2026. No macro, syntax, notation, axiom, sorry.
-/
import Derived.Test.YtmbnmfhfeaagaaaDoorRows
import GoSem.ClaimSeven
namespace Go.Proofs.YtmbnmfhfeaagaaaDoor
namespace Rows

/-- THE TIED CARD OF 'celluloidlaw05.InflateRaw'. -/
def inflateRawCard : Claim7 := { stood := { row := inflateRawRow, standIns := [], harness := (true, "59d6ad302902ad2d6c3ae725b63ad56f05037c94ca9d884ce78cb4497b6c849b"), looks := false }, kinds := [], alts := [], laidByText := true, laidKinds := [.data, .data, .data, .data], laidTests := true, laidLooks := .later }
def InflateRawCardSaid : Prop := Claim7.holds Tryd.pinned (.plain (OpenSpec.ofChange inflateRawSpec)) inflateRawCard

/-- THE TIED CARD OF 'celluloidlaw05.InflateOpens'. -/
def inflateOpensCard : Claim7 := { stood := { row := inflateOpensRow, standIns := [], harness := (true, "59d6ad302902ad2d6c3ae725b63ad56f05037c94ca9d884ce78cb4497b6c849b"), looks := false }, kinds := [], alts := [], laidByText := true, laidKinds := [.data, .data, .data, .data], laidTests := true, laidLooks := .later }
def InflateOpensCardSaid : Prop := Claim7.holds Tryd.pinned (.plain (OpenSpec.ofChange inflateOpensSpec)) inflateOpensCard

/-- THE TIED CARD OF 'celluloidlaw05.InflateStored'. -/
def inflateStoredCard : Claim7 := { stood := { row := inflateStoredRow, standIns := [], harness := (true, "59d6ad302902ad2d6c3ae725b63ad56f05037c94ca9d884ce78cb4497b6c849b"), looks := false }, kinds := [], alts := [], laidByText := true, laidKinds := [.data, .data, .data, .data], laidTests := true, laidLooks := .later }
def InflateStoredCardSaid : Prop := Claim7.holds Tryd.pinned (.plain (OpenSpec.ofChange inflateStoredSpec)) inflateStoredCard

/-- THE TIED CARD OF 'celluloidlaw05.InflateEnds'. -/
def inflateEndsCard : Claim7 := { stood := { row := inflateEndsRow, standIns := [], harness := (true, "59d6ad302902ad2d6c3ae725b63ad56f05037c94ca9d884ce78cb4497b6c849b"), looks := false }, kinds := [], alts := [], laidByText := true, laidKinds := [.data, .data, .data, .data], laidTests := true, laidLooks := .later }
def InflateEndsCardSaid : Prop := Claim7.holds Tryd.pinned (.plain (OpenSpec.ofChange inflateEndsSpec)) inflateEndsCard

/-- THE TIED CARD OF 'celluloidlaw05.InflateBlocks'. -/
def inflateBlocksCard : Claim7 := { stood := { row := inflateBlocksRow, standIns := [], harness := (true, "59d6ad302902ad2d6c3ae725b63ad56f05037c94ca9d884ce78cb4497b6c849b"), looks := false }, kinds := [], alts := [], laidByText := true, laidKinds := [.data, .data, .data, .data], laidTests := true, laidLooks := .later }
def InflateBlocksCardSaid : Prop := Claim7.holds Tryd.pinned (.plain (OpenSpec.ofChange inflateBlocksSpec)) inflateBlocksCard

/-- THE SECOND FORM's CARD OF 'celluloidlaw05.InflateRaw'. -/
def inflateRawUptoCard : Claim7 := { stood := { row := inflateRawUptoRow, standIns := [], harness := (true, "59d6ad302902ad2d6c3ae725b63ad56f05037c94ca9d884ce78cb4497b6c849b"), looks := false }, kinds := [], alts := [], laidByText := true, laidKinds := [.data, .data, .data, .data], laidTests := true, laidLooks := .later }
def InflateRawUptoCardSaid : Prop := Claim7.holds Tryd.pinned (.plain (OpenSpec.upto inflateRawSpec)) inflateRawUptoCard

/-- THE SECOND FORM's CARD OF 'celluloidlaw05.InflateOpens'. -/
def inflateOpensUptoCard : Claim7 := { stood := { row := inflateOpensUptoRow, standIns := [], harness := (true, "59d6ad302902ad2d6c3ae725b63ad56f05037c94ca9d884ce78cb4497b6c849b"), looks := false }, kinds := [], alts := [], laidByText := true, laidKinds := [.data, .data, .data, .data], laidTests := true, laidLooks := .later }
def InflateOpensUptoCardSaid : Prop := Claim7.holds Tryd.pinned (.plain (OpenSpec.upto inflateOpensSpec)) inflateOpensUptoCard

/-- THE SECOND FORM's CARD OF 'celluloidlaw05.InflateStored'. -/
def inflateStoredUptoCard : Claim7 := { stood := { row := inflateStoredUptoRow, standIns := [], harness := (true, "59d6ad302902ad2d6c3ae725b63ad56f05037c94ca9d884ce78cb4497b6c849b"), looks := false }, kinds := [], alts := [], laidByText := true, laidKinds := [.data, .data, .data, .data], laidTests := true, laidLooks := .later }
def InflateStoredUptoCardSaid : Prop := Claim7.holds Tryd.pinned (.plain (OpenSpec.upto inflateStoredSpec)) inflateStoredUptoCard

/-- THE SECOND FORM's CARD OF 'celluloidlaw05.InflateEnds'. -/
def inflateEndsUptoCard : Claim7 := { stood := { row := inflateEndsUptoRow, standIns := [], harness := (true, "59d6ad302902ad2d6c3ae725b63ad56f05037c94ca9d884ce78cb4497b6c849b"), looks := false }, kinds := [], alts := [], laidByText := true, laidKinds := [.data, .data, .data, .data], laidTests := true, laidLooks := .later }
def InflateEndsUptoCardSaid : Prop := Claim7.holds Tryd.pinned (.plain (OpenSpec.upto inflateEndsSpec)) inflateEndsUptoCard

/-- THE SECOND FORM's CARD OF 'celluloidlaw05.InflateBlocks'. -/
def inflateBlocksUptoCard : Claim7 := { stood := { row := inflateBlocksUptoRow, standIns := [], harness := (true, "59d6ad302902ad2d6c3ae725b63ad56f05037c94ca9d884ce78cb4497b6c849b"), looks := false }, kinds := [], alts := [], laidByText := true, laidKinds := [.data, .data, .data, .data], laidTests := true, laidLooks := .later }
def InflateBlocksUptoCardSaid : Prop := Claim7.holds Tryd.pinned (.plain (OpenSpec.upto inflateBlocksSpec)) inflateBlocksUptoCard
end Rows
end Go.Proofs.YtmbnmfhfeaagaaaDoor
