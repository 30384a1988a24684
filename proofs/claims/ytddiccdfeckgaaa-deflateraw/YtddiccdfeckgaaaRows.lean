/-
  No cell of these rows narrows 'for every input' (looked for: loops, veiled, ifaces, maps, wideKeys, modest, calm, conditions, laid).
  DERIVED. THE GIVEN ROWS OF THIS SEAT. 4 by the template 'for every input the law returns true; each argument reads behind the call as it read before'; 0 by the template 'total and deterministic' (their statements: YtddiccdfeckgaaaTotals.lean).
  GIVEN WITH THE SEED: the statements are not yours to turn. If you find one false, say at which input.
  Laid BY PROGRAM, IN A SANDBOX (cutbox-rows.mjs): the forced cells as the released guide's own fill.sh prints them over the translation 19b7cba7c0ebe7c4… (all of the seat's roots in one cut). By AI agents, Wed Nov 11 2026. No macro, syntax, notation, axiom, sorry.
-/
import Derived.Test.YtddiccdfeckgaaaChecked
import GoSem.Claim
import GoSem.ClaimJoined
import GoSem.ClaimMapViews
import Derived.JoinedTies
import Derived.KernelRfl
namespace Go.Proofs.Ytddiccdfeckgaaa
/- THE CELL 'sum', in the pinned program and in every row, IS THE sha256 OF THE DUMP (.gsa) THAT YtddiccdfeckgaaaProg.lean LOADS. Nothing in Lean hashes anything: it is a label: what it is worth is what the hold of that sum in a sandbox is worth. -/
noncomputable def Try.pinned : Pinned := { name := "ytddiccdfeckgaaa", sum := "19b7cba7c0ebe7c4e866bb5af26276d52040f6403d88dc8c414888dcf47b26d0", checked := Try.checked }
namespace Rows
def none {H : Type} : Left H := { results := [], args := [] }

/-- 'celluloidlaw06.DeflateRuns': WHATEVER THE INPUT: true; the input reads as it did. -/
def deflateRunsSpec : ChangeSpec := { name := "deflateRuns", fn := fun _ => fun
  | [d1, d2] => { results := [.lit (.bool true)], args := [d1, d2] }
  | _ => none }
def deflateRunsRow : OpenClaim := { program := "ytddiccdfeckgaaa", sum := "19b7cba7c0ebe7c4e866bb5af26276d52040f6403d88dc8c414888dcf47b26d0", func := "celluloid/celluloidlaw06.DeflateRuns", spec := "deflateRuns", plainKeys := false, apart := false }
def DeflateRunsSaid : Prop := deflateRunsRow.holds Try.pinned (OpenSpec.ofChange deflateRunsSpec)

/-- ITS FALSE NEIGHBOUR: 'it returns false'. Refute it at one input. -/
def deflateRunsWrong : ChangeSpec := { name := "deflateRuns", fn := fun _ => fun
  | [d1, d2] => { results := [.lit (.bool false)], args := [d1, d2] }
  | _ => none }
def DeflateRunsWrongFalsely : Prop := deflateRunsRow.holds Try.pinned (OpenSpec.ofChange deflateRunsWrong)

/-- 'celluloidlaw06.DeflateRaw': WHATEVER THE INPUT: true; the input reads as it did. -/
def deflateRawSpec : ChangeSpec := { name := "deflateRaw", fn := fun _ => fun
  | [d] => { results := [.lit (.bool true)], args := [d] }
  | _ => none }
def deflateRawRow : OpenClaim := { program := "ytddiccdfeckgaaa", sum := "19b7cba7c0ebe7c4e866bb5af26276d52040f6403d88dc8c414888dcf47b26d0", func := "celluloid/celluloidlaw06.DeflateRaw", spec := "deflateRaw", plainKeys := false, apart := false }
def DeflateRawSaid : Prop := deflateRawRow.holds Try.pinned (OpenSpec.ofChange deflateRawSpec)

/-- ITS FALSE NEIGHBOUR: 'it returns false'. Refute it at one input. -/
def deflateRawWrong : ChangeSpec := { name := "deflateRaw", fn := fun _ => fun
  | [d] => { results := [.lit (.bool false)], args := [d] }
  | _ => none }
def DeflateRawWrongFalsely : Prop := deflateRawRow.holds Try.pinned (OpenSpec.ofChange deflateRawWrong)

/-- 'celluloidlaw06.DeflateFinds': WHATEVER THE INPUT: true; the input reads as it did. -/
def deflateFindsSpec : ChangeSpec := { name := "deflateFinds", fn := fun _ => fun
  | [d1, d2, d3] => { results := [.lit (.bool true)], args := [d1, d2, d3] }
  | _ => none }
def deflateFindsRow : OpenClaim := { program := "ytddiccdfeckgaaa", sum := "19b7cba7c0ebe7c4e866bb5af26276d52040f6403d88dc8c414888dcf47b26d0", func := "celluloid/celluloidlaw06.DeflateFinds", spec := "deflateFinds", plainKeys := false, apart := false }
def DeflateFindsSaid : Prop := deflateFindsRow.holds Try.pinned (OpenSpec.ofChange deflateFindsSpec)

/-- ITS FALSE NEIGHBOUR: 'it returns false'. Refute it at one input. -/
def deflateFindsWrong : ChangeSpec := { name := "deflateFinds", fn := fun _ => fun
  | [d1, d2, d3] => { results := [.lit (.bool false)], args := [d1, d2, d3] }
  | _ => none }
def DeflateFindsWrongFalsely : Prop := deflateFindsRow.holds Try.pinned (OpenSpec.ofChange deflateFindsWrong)

/-- 'celluloidlaw06.DeflatePlain': WHATEVER THE INPUT: true; the input reads as it did. -/
def deflatePlainSpec : ChangeSpec := { name := "deflatePlain", fn := fun _ => fun
  | [d] => { results := [.lit (.bool true)], args := [d] }
  | _ => none }
def deflatePlainRow : OpenClaim := { program := "ytddiccdfeckgaaa", sum := "19b7cba7c0ebe7c4e866bb5af26276d52040f6403d88dc8c414888dcf47b26d0", func := "celluloid/celluloidlaw06.DeflatePlain", spec := "deflatePlain", plainKeys := false, apart := false }
def DeflatePlainSaid : Prop := deflatePlainRow.holds Try.pinned (OpenSpec.ofChange deflatePlainSpec)

/-- ITS FALSE NEIGHBOUR: 'it returns false'. Refute it at one input. -/
def deflatePlainWrong : ChangeSpec := { name := "deflatePlain", fn := fun _ => fun
  | [d] => { results := [.lit (.bool false)], args := [d] }
  | _ => none }
def DeflatePlainWrongFalsely : Prop := deflatePlainRow.holds Try.pinned (OpenSpec.ofChange deflatePlainWrong)

/- THE SECOND FORM. 'bulk': how many values and letters a reading holds, each counted each time it is reached (what is shared counts as often as it is met; a slice's spare places count too). A statement '..UptoSaid' is the law's where the arguments, and the package variables that the reading takes, are together of bulk at most 1048576: NARROWER than '..Said'. Prove '..Said' where nothing that the law and all that it calls make is longer than what came in: it says more and counts as full. Else prove '..UptoSaid'. A law counts once. -/
mutual
def uptoBulk {H : Type} : DataW H → Nat
  | .lit (.string bytes) => bytes.length + 1
  | .lit _ => 1
  | .nil => 1
  | .ptr d => uptoBulk d + 1
  | .slice elems spare => uptoBulkAll elems + uptoBulkAll spare + 1
  | .agg parts => uptoBulkAll parts + 1
  | .iface _ d => uptoBulk d + 1
  | .map entries => uptoBulkEntries entries + 1
  | .held _ => 1
def uptoBulkAll {H : Type} : List (DataW H) → Nat
  | [] => 0
  | d :: r => uptoBulk d + uptoBulkAll r
def uptoBulkEntries {H : Type} : List (Lit × DataW H) → Nat
  | [] => 0
  | x :: r => uptoBulkEntry x + uptoBulkEntries r
def uptoBulkEntry {H : Type} : Lit × DataW H → Nat
  | (.string bytes, d) => bytes.length + uptoBulk d + 1
  | (_, d) => uptoBulk d + 1
 end
def uptoSmall : (H : Type) → List (DataW H) → Bool := fun _ ds => decide (uptoBulkAll ds ≤ 1048576)
def OpenSpec.upto (s : _root_.Go.ChangeSpec) : _root_.Go.OpenSpec := { _root_.Go.OpenSpec.ofChange s with cond := some uptoSmall }

/-- 'celluloidlaw06.DeflateRuns', WHERE WHAT IT READS IS OF BULK AT MOST 1048576: true; the input reads as it did. -/
def deflateRunsUptoRow : OpenClaim := { program := "ytddiccdfeckgaaa", sum := "19b7cba7c0ebe7c4e866bb5af26276d52040f6403d88dc8c414888dcf47b26d0", func := "celluloid/celluloidlaw06.DeflateRuns", spec := "deflateRuns", plainKeys := false, apart := false, narrowed := true }
def DeflateRunsUptoSaid : Prop := deflateRunsUptoRow.holds Try.pinned (OpenSpec.upto deflateRunsSpec)

/-- 'celluloidlaw06.DeflateRaw', WHERE WHAT IT READS IS OF BULK AT MOST 1048576: true; the input reads as it did. -/
def deflateRawUptoRow : OpenClaim := { program := "ytddiccdfeckgaaa", sum := "19b7cba7c0ebe7c4e866bb5af26276d52040f6403d88dc8c414888dcf47b26d0", func := "celluloid/celluloidlaw06.DeflateRaw", spec := "deflateRaw", plainKeys := false, apart := false, narrowed := true }
def DeflateRawUptoSaid : Prop := deflateRawUptoRow.holds Try.pinned (OpenSpec.upto deflateRawSpec)

/-- 'celluloidlaw06.DeflateFinds', WHERE WHAT IT READS IS OF BULK AT MOST 1048576: true; the input reads as it did. -/
def deflateFindsUptoRow : OpenClaim := { program := "ytddiccdfeckgaaa", sum := "19b7cba7c0ebe7c4e866bb5af26276d52040f6403d88dc8c414888dcf47b26d0", func := "celluloid/celluloidlaw06.DeflateFinds", spec := "deflateFinds", plainKeys := false, apart := false, narrowed := true }
def DeflateFindsUptoSaid : Prop := deflateFindsUptoRow.holds Try.pinned (OpenSpec.upto deflateFindsSpec)

/-- 'celluloidlaw06.DeflatePlain', WHERE WHAT IT READS IS OF BULK AT MOST 1048576: true; the input reads as it did. -/
def deflatePlainUptoRow : OpenClaim := { program := "ytddiccdfeckgaaa", sum := "19b7cba7c0ebe7c4e866bb5af26276d52040f6403d88dc8c414888dcf47b26d0", func := "celluloid/celluloidlaw06.DeflatePlain", spec := "deflatePlain", plainKeys := false, apart := false, narrowed := true }
def DeflatePlainUptoSaid : Prop := deflatePlainUptoRow.holds Try.pinned (OpenSpec.upto deflatePlainSpec)

end Rows
end Go.Proofs.Ytddiccdfeckgaaa
