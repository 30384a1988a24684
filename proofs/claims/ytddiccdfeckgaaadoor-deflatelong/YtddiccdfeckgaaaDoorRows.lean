/-
  NARROWER THAN 'FOR EVERY INPUT', by the rows' own cells (each row's printed sentence says how): InflateRaw: laid · InflateOpens: laid · DeflateBack: laid · DeflateLong: laid.
  DERIVED. THE GIVEN ROWS OF THIS SEAT. 4 by the template 'for every input the law returns true; each argument reads behind the call as it read before'; 0 by the template 'total and deterministic' (their statements: YtddiccdfeckgaaaDoorTotals.lean).
  GIVEN WITH THE SEED: the statements are not yours to turn. If you find one false, say at which input.
  Laid BY PROGRAM, IN A SANDBOX (cutbox-rows.mjs): the forced cells as the released guide's own fill.sh prints them over the translation ee71b04ca1dc21dd… (all of the seat's roots in one cut). By AI agents, Wed Nov 11 2026. No macro, syntax, notation, axiom, sorry.
-/
import Derived.Test.YtddiccdfeckgaaaDoorChecked
import GoSem.Claim
import GoSem.ClaimJoined
import GoSem.ClaimMapViews
import Derived.JoinedTies
import Derived.KernelRfl
namespace Go.Proofs.YtddiccdfeckgaaaDoor
/- THE CELL 'sum', in the pinned program and in every row, IS THE sha256 OF THE DUMP (.gsa) THAT YtddiccdfeckgaaaDoorProg.lean LOADS. Nothing in Lean hashes anything: it is a label: what it is worth is what the hold of that sum in a sandbox is worth. -/
noncomputable def Tryd.pinned : Pinned := { name := "ytddiccdfeckgaaadoor", sum := "ee71b04ca1dc21dd35becaf54ab607a839ec4e64bf4acbe8b2c7f0ab2ea641fc", checked := Tryd.checked }
namespace Rows
def none {H : Type} : Left H := { results := [], args := [] }

/- WHAT THE LISTED PACKAGE-LEVEL VARIABLES READ AS WHEN THE CALL BEGINS. Each datum BY PROGRAM (the guide's laid-datum.mjs) off the statement by which the dump's own 'gosem.cut.vars' lays the variable. In a bare row this is a premise. The card (YtddiccdfeckgaaaDoorCards.lean) ties it to the program's text. -/
def laid_celluloid_inflate_repeats {H : Type} : DataW H := .agg [.agg [.lit (.int .i64 3), .lit (.int .i64 2)], .agg [.lit (.int .i64 3), .lit (.int .i64 3)], .agg [.lit (.int .i64 11), .lit (.int .i64 7)]]
def laid_celluloid_inflate_order {H : Type} : DataW H := .agg [.lit (.int .i64 16), .lit (.int .i64 17), .lit (.int .i64 18), .lit (.int .i64 0), .lit (.int .i64 8), .lit (.int .i64 7), .lit (.int .i64 9), .lit (.int .i64 6), .lit (.int .i64 10), .lit (.int .i64 5), .lit (.int .i64 11), .lit (.int .i64 4), .lit (.int .i64 12), .lit (.int .i64 3), .lit (.int .i64 13), .lit (.int .i64 2), .lit (.int .i64 14), .lit (.int .i64 1), .lit (.int .i64 15)]
def laid_celluloid_inflate_lengthSpans {H : Type} : DataW H := .agg [.agg [.lit (.int .i64 3), .lit (.int .i64 0)], .agg [.lit (.int .i64 4), .lit (.int .i64 0)], .agg [.lit (.int .i64 5), .lit (.int .i64 0)], .agg [.lit (.int .i64 6), .lit (.int .i64 0)], .agg [.lit (.int .i64 7), .lit (.int .i64 0)], .agg [.lit (.int .i64 8), .lit (.int .i64 0)], .agg [.lit (.int .i64 9), .lit (.int .i64 0)], .agg [.lit (.int .i64 10), .lit (.int .i64 0)], .agg [.lit (.int .i64 11), .lit (.int .i64 1)], .agg [.lit (.int .i64 13), .lit (.int .i64 1)], .agg [.lit (.int .i64 15), .lit (.int .i64 1)], .agg [.lit (.int .i64 17), .lit (.int .i64 1)], .agg [.lit (.int .i64 19), .lit (.int .i64 2)], .agg [.lit (.int .i64 23), .lit (.int .i64 2)], .agg [.lit (.int .i64 27), .lit (.int .i64 2)], .agg [.lit (.int .i64 31), .lit (.int .i64 2)], .agg [.lit (.int .i64 35), .lit (.int .i64 3)], .agg [.lit (.int .i64 43), .lit (.int .i64 3)], .agg [.lit (.int .i64 51), .lit (.int .i64 3)], .agg [.lit (.int .i64 59), .lit (.int .i64 3)], .agg [.lit (.int .i64 67), .lit (.int .i64 4)], .agg [.lit (.int .i64 83), .lit (.int .i64 4)], .agg [.lit (.int .i64 99), .lit (.int .i64 4)], .agg [.lit (.int .i64 115), .lit (.int .i64 4)], .agg [.lit (.int .i64 131), .lit (.int .i64 5)], .agg [.lit (.int .i64 163), .lit (.int .i64 5)], .agg [.lit (.int .i64 195), .lit (.int .i64 5)], .agg [.lit (.int .i64 227), .lit (.int .i64 5)], .agg [.lit (.int .i64 258), .lit (.int .i64 0)]]
def laid_celluloid_inflate_distanceSpans {H : Type} : DataW H := .agg [.agg [.lit (.int .i64 1), .lit (.int .i64 0)], .agg [.lit (.int .i64 2), .lit (.int .i64 0)], .agg [.lit (.int .i64 3), .lit (.int .i64 0)], .agg [.lit (.int .i64 4), .lit (.int .i64 0)], .agg [.lit (.int .i64 5), .lit (.int .i64 1)], .agg [.lit (.int .i64 7), .lit (.int .i64 1)], .agg [.lit (.int .i64 9), .lit (.int .i64 2)], .agg [.lit (.int .i64 13), .lit (.int .i64 2)], .agg [.lit (.int .i64 17), .lit (.int .i64 3)], .agg [.lit (.int .i64 25), .lit (.int .i64 3)], .agg [.lit (.int .i64 33), .lit (.int .i64 4)], .agg [.lit (.int .i64 49), .lit (.int .i64 4)], .agg [.lit (.int .i64 65), .lit (.int .i64 5)], .agg [.lit (.int .i64 97), .lit (.int .i64 5)], .agg [.lit (.int .i64 129), .lit (.int .i64 6)], .agg [.lit (.int .i64 193), .lit (.int .i64 6)], .agg [.lit (.int .i64 257), .lit (.int .i64 7)], .agg [.lit (.int .i64 385), .lit (.int .i64 7)], .agg [.lit (.int .i64 513), .lit (.int .i64 8)], .agg [.lit (.int .i64 769), .lit (.int .i64 8)], .agg [.lit (.int .i64 1025), .lit (.int .i64 9)], .agg [.lit (.int .i64 1537), .lit (.int .i64 9)], .agg [.lit (.int .i64 2049), .lit (.int .i64 10)], .agg [.lit (.int .i64 3073), .lit (.int .i64 10)], .agg [.lit (.int .i64 4097), .lit (.int .i64 11)], .agg [.lit (.int .i64 6145), .lit (.int .i64 11)], .agg [.lit (.int .i64 8193), .lit (.int .i64 12)], .agg [.lit (.int .i64 12289), .lit (.int .i64 12)], .agg [.lit (.int .i64 16385), .lit (.int .i64 13)], .agg [.lit (.int .i64 24577), .lit (.int .i64 13)]]

/-- 'celluloidlaw05.InflateRaw': WHATEVER THE INPUT: true; the input reads as it did. -/
def inflateRawSpec : ChangeSpec := { name := "inflateRaw", fn := fun _ => fun
  | [d1, d2] => { results := [.lit (.bool true)], args := [d1, d2] }
  | _ => none }
def inflateRawRow : OpenClaim := { program := "ytddiccdfeckgaaadoor", sum := "ee71b04ca1dc21dd35becaf54ab607a839ec4e64bf4acbe8b2c7f0ab2ea641fc", func := "celluloid/celluloidlaw05.InflateRaw", spec := "inflateRaw", named := ["celluloid/inflate.lengthSpans", "celluloid/inflate.distanceSpans", "celluloid/inflate.order", "celluloid/inflate.repeats"], plainKeys := false, apart := false, laid := [("celluloid/inflate.repeats", laid_celluloid_inflate_repeats), ("celluloid/inflate.order", laid_celluloid_inflate_order), ("celluloid/inflate.lengthSpans", laid_celluloid_inflate_lengthSpans), ("celluloid/inflate.distanceSpans", laid_celluloid_inflate_distanceSpans)] }
def InflateRawSaid : Prop := inflateRawRow.holds Tryd.pinned (OpenSpec.ofChange inflateRawSpec)

/-- ITS FALSE NEIGHBOUR: 'it returns false'. Refute it at one input. -/
def inflateRawWrong : ChangeSpec := { name := "inflateRaw", fn := fun _ => fun
  | [d1, d2] => { results := [.lit (.bool false)], args := [d1, d2] }
  | _ => none }
def InflateRawWrongFalsely : Prop := inflateRawRow.holds Tryd.pinned (OpenSpec.ofChange inflateRawWrong)

/-- 'celluloidlaw05.InflateOpens': WHATEVER THE INPUT: true; the input reads as it did. -/
def inflateOpensSpec : ChangeSpec := { name := "inflateOpens", fn := fun _ => fun
  | [d1, d2] => { results := [.lit (.bool true)], args := [d1, d2] }
  | _ => none }
def inflateOpensRow : OpenClaim := { program := "ytddiccdfeckgaaadoor", sum := "ee71b04ca1dc21dd35becaf54ab607a839ec4e64bf4acbe8b2c7f0ab2ea641fc", func := "celluloid/celluloidlaw05.InflateOpens", spec := "inflateOpens", named := ["celluloid/inflate.lengthSpans", "celluloid/inflate.distanceSpans", "celluloid/inflate.order", "celluloid/inflate.repeats"], plainKeys := false, apart := false, laid := [("celluloid/inflate.repeats", laid_celluloid_inflate_repeats), ("celluloid/inflate.order", laid_celluloid_inflate_order), ("celluloid/inflate.lengthSpans", laid_celluloid_inflate_lengthSpans), ("celluloid/inflate.distanceSpans", laid_celluloid_inflate_distanceSpans)] }
def InflateOpensSaid : Prop := inflateOpensRow.holds Tryd.pinned (OpenSpec.ofChange inflateOpensSpec)

/-- ITS FALSE NEIGHBOUR: 'it returns false'. Refute it at one input. -/
def inflateOpensWrong : ChangeSpec := { name := "inflateOpens", fn := fun _ => fun
  | [d1, d2] => { results := [.lit (.bool false)], args := [d1, d2] }
  | _ => none }
def InflateOpensWrongFalsely : Prop := inflateOpensRow.holds Tryd.pinned (OpenSpec.ofChange inflateOpensWrong)

/-- 'celluloidlaw06.DeflateBack': WHATEVER THE INPUT: true; the input reads as it did. -/
def deflateBackSpec : ChangeSpec := { name := "deflateBack", fn := fun _ => fun
  | [d1, d2] => { results := [.lit (.bool true)], args := [d1, d2] }
  | _ => none }
def deflateBackRow : OpenClaim := { program := "ytddiccdfeckgaaadoor", sum := "ee71b04ca1dc21dd35becaf54ab607a839ec4e64bf4acbe8b2c7f0ab2ea641fc", func := "celluloid/celluloidlaw06.DeflateBack", spec := "deflateBack", named := ["celluloid/inflate.lengthSpans", "celluloid/inflate.distanceSpans", "celluloid/inflate.order", "celluloid/inflate.repeats"], plainKeys := false, apart := false, laid := [("celluloid/inflate.repeats", laid_celluloid_inflate_repeats), ("celluloid/inflate.order", laid_celluloid_inflate_order), ("celluloid/inflate.lengthSpans", laid_celluloid_inflate_lengthSpans), ("celluloid/inflate.distanceSpans", laid_celluloid_inflate_distanceSpans)] }
def DeflateBackSaid : Prop := deflateBackRow.holds Tryd.pinned (OpenSpec.ofChange deflateBackSpec)

/-- ITS FALSE NEIGHBOUR: 'it returns false'. Refute it at one input. -/
def deflateBackWrong : ChangeSpec := { name := "deflateBack", fn := fun _ => fun
  | [d1, d2] => { results := [.lit (.bool false)], args := [d1, d2] }
  | _ => none }
def DeflateBackWrongFalsely : Prop := deflateBackRow.holds Tryd.pinned (OpenSpec.ofChange deflateBackWrong)

/-- 'celluloidlaw06.DeflateLong': WHATEVER THE INPUT: true; the input reads as it did. -/
def deflateLongSpec : ChangeSpec := { name := "deflateLong", fn := fun _ => fun
  | [d] => { results := [.lit (.bool true)], args := [d] }
  | _ => none }
def deflateLongRow : OpenClaim := { program := "ytddiccdfeckgaaadoor", sum := "ee71b04ca1dc21dd35becaf54ab607a839ec4e64bf4acbe8b2c7f0ab2ea641fc", func := "celluloid/celluloidlaw06.DeflateLong", spec := "deflateLong", named := ["celluloid/inflate.lengthSpans", "celluloid/inflate.distanceSpans", "celluloid/inflate.order", "celluloid/inflate.repeats"], plainKeys := false, apart := false, laid := [("celluloid/inflate.repeats", laid_celluloid_inflate_repeats), ("celluloid/inflate.order", laid_celluloid_inflate_order), ("celluloid/inflate.lengthSpans", laid_celluloid_inflate_lengthSpans), ("celluloid/inflate.distanceSpans", laid_celluloid_inflate_distanceSpans)] }
def DeflateLongSaid : Prop := deflateLongRow.holds Tryd.pinned (OpenSpec.ofChange deflateLongSpec)

/-- ITS FALSE NEIGHBOUR: 'it returns false'. Refute it at one input. -/
def deflateLongWrong : ChangeSpec := { name := "deflateLong", fn := fun _ => fun
  | [d] => { results := [.lit (.bool false)], args := [d] }
  | _ => none }
def DeflateLongWrongFalsely : Prop := deflateLongRow.holds Tryd.pinned (OpenSpec.ofChange deflateLongWrong)

/- THE SECOND FORM. 'bulk': how many values and letters a reading holds, each counted each time it is reached (what is shared counts as often as it is met; a slice's spare places count too). A statement '..UptoSaid' is the law's where the arguments, and the package variables that the reading takes, are together of bulk at most 1048576: NARROWER than '..Said'. Prove '..Said' where nothing that the law and all that it calls make is longer than what came in: it says more and counts as full. Else prove '..UptoSaid'. A law counts once. -/
mutual
def uptoBulk {H : Type} : DataW H → Nat
  | .lit (.string bytes) => bytes.length + 1
  | .lit _ => 1
  | .nil => 1
  | .ptr d => uptoBulk d + 1
  | .slice elems spare => uptoBulkAll elems + uptoBulkAll spare + 1
  | .agg parts => uptoBulkAll parts + 1
  | .iface _ d => uptoBulk d + 1
  | .map entries => uptoBulkEntries entries + 1
  | .held _ => 1
def uptoBulkAll {H : Type} : List (DataW H) → Nat
  | [] => 0
  | d :: r => uptoBulk d + uptoBulkAll r
def uptoBulkEntries {H : Type} : List (Lit × DataW H) → Nat
  | [] => 0
  | x :: r => uptoBulkEntry x + uptoBulkEntries r
def uptoBulkEntry {H : Type} : Lit × DataW H → Nat
  | (.string bytes, d) => bytes.length + uptoBulk d + 1
  | (_, d) => uptoBulk d + 1
 end
def uptoSmall : (H : Type) → List (DataW H) → Bool := fun _ ds => decide (uptoBulkAll ds ≤ 1048576)
def OpenSpec.upto (s : _root_.Go.ChangeSpec) : _root_.Go.OpenSpec := { _root_.Go.OpenSpec.ofChange s with cond := some uptoSmall }

/-- 'celluloidlaw05.InflateRaw', WHERE WHAT IT READS IS OF BULK AT MOST 1048576: true; the input reads as it did. -/
def inflateRawUptoRow : OpenClaim := { program := "ytddiccdfeckgaaadoor", sum := "ee71b04ca1dc21dd35becaf54ab607a839ec4e64bf4acbe8b2c7f0ab2ea641fc", func := "celluloid/celluloidlaw05.InflateRaw", spec := "inflateRaw", named := ["celluloid/inflate.lengthSpans", "celluloid/inflate.distanceSpans", "celluloid/inflate.order", "celluloid/inflate.repeats"], plainKeys := false, apart := false, laid := [("celluloid/inflate.repeats", laid_celluloid_inflate_repeats), ("celluloid/inflate.order", laid_celluloid_inflate_order), ("celluloid/inflate.lengthSpans", laid_celluloid_inflate_lengthSpans), ("celluloid/inflate.distanceSpans", laid_celluloid_inflate_distanceSpans)], narrowed := true }
def InflateRawUptoSaid : Prop := inflateRawUptoRow.holds Tryd.pinned (OpenSpec.upto inflateRawSpec)

/-- 'celluloidlaw05.InflateOpens', WHERE WHAT IT READS IS OF BULK AT MOST 1048576: true; the input reads as it did. -/
def inflateOpensUptoRow : OpenClaim := { program := "ytddiccdfeckgaaadoor", sum := "ee71b04ca1dc21dd35becaf54ab607a839ec4e64bf4acbe8b2c7f0ab2ea641fc", func := "celluloid/celluloidlaw05.InflateOpens", spec := "inflateOpens", named := ["celluloid/inflate.lengthSpans", "celluloid/inflate.distanceSpans", "celluloid/inflate.order", "celluloid/inflate.repeats"], plainKeys := false, apart := false, laid := [("celluloid/inflate.repeats", laid_celluloid_inflate_repeats), ("celluloid/inflate.order", laid_celluloid_inflate_order), ("celluloid/inflate.lengthSpans", laid_celluloid_inflate_lengthSpans), ("celluloid/inflate.distanceSpans", laid_celluloid_inflate_distanceSpans)], narrowed := true }
def InflateOpensUptoSaid : Prop := inflateOpensUptoRow.holds Tryd.pinned (OpenSpec.upto inflateOpensSpec)

/-- 'celluloidlaw06.DeflateBack', WHERE WHAT IT READS IS OF BULK AT MOST 1048576: true; the input reads as it did. -/
def deflateBackUptoRow : OpenClaim := { program := "ytddiccdfeckgaaadoor", sum := "ee71b04ca1dc21dd35becaf54ab607a839ec4e64bf4acbe8b2c7f0ab2ea641fc", func := "celluloid/celluloidlaw06.DeflateBack", spec := "deflateBack", named := ["celluloid/inflate.lengthSpans", "celluloid/inflate.distanceSpans", "celluloid/inflate.order", "celluloid/inflate.repeats"], plainKeys := false, apart := false, laid := [("celluloid/inflate.repeats", laid_celluloid_inflate_repeats), ("celluloid/inflate.order", laid_celluloid_inflate_order), ("celluloid/inflate.lengthSpans", laid_celluloid_inflate_lengthSpans), ("celluloid/inflate.distanceSpans", laid_celluloid_inflate_distanceSpans)], narrowed := true }
def DeflateBackUptoSaid : Prop := deflateBackUptoRow.holds Tryd.pinned (OpenSpec.upto deflateBackSpec)

/-- 'celluloidlaw06.DeflateLong', WHERE WHAT IT READS IS OF BULK AT MOST 1048576: true; the input reads as it did. -/
def deflateLongUptoRow : OpenClaim := { program := "ytddiccdfeckgaaadoor", sum := "ee71b04ca1dc21dd35becaf54ab607a839ec4e64bf4acbe8b2c7f0ab2ea641fc", func := "celluloid/celluloidlaw06.DeflateLong", spec := "deflateLong", named := ["celluloid/inflate.lengthSpans", "celluloid/inflate.distanceSpans", "celluloid/inflate.order", "celluloid/inflate.repeats"], plainKeys := false, apart := false, laid := [("celluloid/inflate.repeats", laid_celluloid_inflate_repeats), ("celluloid/inflate.order", laid_celluloid_inflate_order), ("celluloid/inflate.lengthSpans", laid_celluloid_inflate_lengthSpans), ("celluloid/inflate.distanceSpans", laid_celluloid_inflate_distanceSpans)], narrowed := true }
def DeflateLongUptoSaid : Prop := deflateLongUptoRow.holds Tryd.pinned (OpenSpec.upto deflateLongSpec)

end Rows
end Go.Proofs.YtddiccdfeckgaaaDoor
