import Derived.Test.YthcejmbjagpjcabN5
/- Layer 14: ComposeCx and Color, both sides. -/
namespace Go.Proofs.Ythcejmbjagpjcab
open Go.RowKit
set_option linter.unusedVariables false
set_option linter.unusedSimpArgs false
set_option maxRecDepth 100000

def I64C (m0 m1 m2 m3 d0 d1 d2 d3 : Int) : Prop := I64 m0 ∧ I64 m1 ∧ I64 m2 ∧ I64 m3 ∧ I64 d0 ∧ I64 d1 ∧ I64 d2 ∧ I64 d3
theorem cxOk_bd {m0 m1 m2 m3 d0 d1 d2 d3 : Int} (h : cxOk [m0, m1, m2, m3] [d0, d1, d2, d3] = true) : (-512 ≤ m0 ∧ m0 ≤ 512) ∧ (-512 ≤ m1 ∧ m1 ≤ 512) ∧ (-512 ≤ m2 ∧ m2 ≤ 512) ∧ (-512 ≤ m3 ∧ m3 ≤ 512) ∧ (-255 ≤ d0 ∧ d0 ≤ 255) ∧ (-255 ≤ d1 ∧ d1 ≤ 255) ∧ (-255 ≤ d2 ∧ d2 ≤ 255) ∧ (-255 ≤ d3 ∧ d3 ≤ 255) := by
  simp [cxOk, nr] at h
  omega
theorem rgbaOk_bd {r g b a : Int} (h : rgbaOk r g b a = true) : (0 ≤ r ∧ r ≤ 255) ∧ (0 ≤ g ∧ g ≤ 255) ∧ (0 ≤ b ∧ b ≤ 255) ∧ (0 ≤ a ∧ a ≤ 255) := by
  simp [rgbaOk, nr] at h
  omega
def cxOk8 (m0 m1 m2 m3 d0 d1 d2 d3 : Int) : Bool := cxOk [m0, m1, m2, m3] [d0, d1, d2, d3]
def ccxV (om0 om1 om2 om3 od0 od1 od2 od3 im0 im1 im2 im3 id0 id1 id2 id3 : Int) : Value := if cxOk8 om0 om1 om2 om3 od0 od1 od2 od3 && cxOk8 im0 im1 im2 im3 id0 id1 id2 id3 then .agg #[.int .i64 (cxM om0 im0), .int .i64 (cxM om1 im1), .int .i64 (cxM om2 im2), .int .i64 (cxM om3 im3), .int .i64 (cxA om0 id0 od0), .int .i64 (cxA om1 id1 od1), .int .i64 (cxA om2 id2 od2), .int .i64 (cxA om3 id3 od3)] else .agg #[.int .i64 0, .int .i64 0, .int .i64 0, .int .i64 0, .int .i64 0, .int .i64 0, .int .i64 0, .int .i64 0]
theorem ccxV_no {om0 om1 om2 om3 od0 od1 od2 od3 im0 im1 im2 im3 id0 id1 id2 id3 : Int} (h : (cxOk8 om0 om1 om2 om3 od0 od1 od2 od3 && cxOk8 im0 im1 im2 im3 id0 id1 id2 id3) = false) : ccxV om0 om1 om2 om3 od0 od1 od2 od3 im0 im1 im2 im3 id0 id1 id2 id3 = .agg #[.int .i64 0, .int .i64 0, .int .i64 0, .int .i64 0, .int .i64 0, .int .i64 0, .int .i64 0, .int .i64 0] := by unfold ccxV; rw [h]; rfl
theorem ccxV_yes {om0 om1 om2 om3 od0 od1 od2 od3 im0 im1 im2 im3 id0 id1 id2 id3 : Int} (h : cxOk8 om0 om1 om2 om3 od0 od1 od2 od3 = true) (h2 : cxOk8 im0 im1 im2 im3 id0 id1 id2 id3 = true) : ccxV om0 om1 om2 om3 od0 od1 od2 od3 im0 im1 im2 im3 id0 id1 id2 id3 = .agg #[.int .i64 (cxM om0 im0), .int .i64 (cxM om1 im1), .int .i64 (cxM om2 im2), .int .i64 (cxM om3 im3), .int .i64 (cxA om0 id0 od0), .int .i64 (cxA om1 id1 od1), .int .i64 (cxA om2 id2 od2), .int .i64 (cxA om3 id3 od3)] := by unfold ccxV; rw [h, h2]; rfl
def colV (m0 m1 m2 m3 d0 d1 d2 d3 kr kg kb ka : Int) : Value := if cxOk8 m0 m1 m2 m3 d0 d1 d2 d3 && rgbaOk kr kg kb ka then .agg #[.int .i64 (colP kr m0 d0), .int .i64 (colP kg m1 d1), .int .i64 (colP kb m2 d2), .int .i64 (colP ka m3 d3)] else .agg #[.int .i64 0, .int .i64 0, .int .i64 0, .int .i64 0]
theorem colV_no {m0 m1 m2 m3 d0 d1 d2 d3 kr kg kb ka : Int} (h : (cxOk8 m0 m1 m2 m3 d0 d1 d2 d3 && rgbaOk kr kg kb ka) = false) : colV m0 m1 m2 m3 d0 d1 d2 d3 kr kg kb ka = .agg #[.int .i64 0, .int .i64 0, .int .i64 0, .int .i64 0] := by unfold colV; rw [h]; rfl
theorem colV_yes {m0 m1 m2 m3 d0 d1 d2 d3 kr kg kb ka : Int} (h : cxOk8 m0 m1 m2 m3 d0 d1 d2 d3 = true) (h2 : rgbaOk kr kg kb ka = true) : colV m0 m1 m2 m3 d0 d1 d2 d3 kr kg kb ka = .agg #[.int .i64 (colP kr m0 d0), .int .i64 (colP kg m1 d1), .int .i64 (colP kb m2 d2), .int .i64 (colP ka m3 d3)] := by unfold colV; rw [h, h2]; rfl
end Go.Proofs.Ythcejmbjagpjcab
