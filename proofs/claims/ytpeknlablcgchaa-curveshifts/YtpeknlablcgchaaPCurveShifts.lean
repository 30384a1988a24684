/-
  Layer 16: a curve that is shifted by even units has its points shifted, and as many.
  Conditions: none beyond the row's own: every argument that fits its kind, in whatever memory.
-/
import Derived.Test.YtpeknlablcgchaaRows
import Derived.Test.YtpeknlablcgchaaU3
import Derived.Test.YtpeknlablcgchaaO7
import Derived.Test.YtpeknlablcgchaaU4
import Derived.WalkKit
import Derived.ProofKit
import Derived.OpenShut
import Derived.Lib.SmallJoins
namespace Go.Proofs.Ytpeknlablcgchaa.curveShifts
open Go.ChangeShapes Go.WideShapes Go.ChangeAt Go.RowKit
set_option linter.unusedVariables false
set_option linter.unusedSimpArgs false

theorem own : ownKnob Try.prog.godebug = none := by kernel_rfl
theorem laid : laidOutB Try.prog = true := by kernel_rfl
theorem readable : ∀ t ∈ Try.f7.params.toList, Try.prog.readableRec t = true ∧ t < Try.prog.types.size := by
  rw [Try.params7]
  intro t ht
  simp only [List.mem_cons, List.not_mem_nil, or_false] at ht
  rcases ht with rfl | rfl | rfl | rfl | rfl
  all_goals exact ⟨by kernel_rfl, of_decide_eq_true (by kernel_rfl)⟩
theorem ints23 : ∀ u ∈ [3, 3], Try.prog.underlying u = some (.int .i64) := by
  intro u hu
  simp only [List.mem_cons, List.not_mem_nil, or_false, or_self] at hu
  subst hu
  exact Try.underlying3

set_option maxRecDepth 100000 in
theorem lifted (os : Os) (started : os.Started) (H : Type) (enc : TypeId × Value → H) :
    ReturnsInHanded {} Try.checked os 7 .any (Rows.curveShiftsSpec.pre6 enc Try.prog Try.f7 Rows.curveShiftsRow.domain false) (Rows.curveShiftsSpec.post enc Try.prog Try.f7 false true false false) := by
  refine returnsInHanded_of_change (C := Try.checked) own started (by kernel_rfl) Try.func7
    (ChangeSpec.witness6 (enc := enc) (C := Try.checked) false ⟨#[], #[.agg #[.int .i64 0, .int .i64 0], .agg #[.int .i64 0, .int .i64 0], .agg #[.int .i64 0, .int .i64 0], .int .i16 0, .int .i16 0], []⟩ 8 (by kernel_rfl) (by kernel_rfl) (by kernel_rfl) (by kernel_rfl)) ?_
  intro W base args ds gs before hval0 hW hcnd _
  have hval : ∀ (j : Nat) t v, Try.f7.params[j]? = some t → args[j]? = some v → Value.okWide Try.prog W .any base t v := hval0
  have hW' := hW
  obtain ⟨p, q, hA0, hV, rfl, hfz, hnd⟩ := hW
  have hA : DataW.TrodAll enc Try.prog W 0 (fun _ => true) true Try.f7.params.toList args.toList ds p := hA0
  have hAk := hA
  rw [Try.params7] at hA hval
  obtain ⟨v0, vs0, d0, ds0, p0, q0, hargs, rfl, rfl, h0, r0⟩ := trodAll_cons hA
  obtain ⟨v1, vs1, d1, ds1, p1, q1, rfl, rfl, rfl, h1, r1⟩ := trodAll_cons r0
  obtain ⟨v2, vs2, d2, ds2, p2, q2, rfl, rfl, rfl, h2, r2⟩ := trodAll_cons r1
  obtain ⟨v3, vs3, d3, ds3, p3, q3, rfl, rfl, rfl, h3, r3⟩ := trodAll_cons r2
  obtain ⟨v4, vs4, d4, ds4, p4, q4, rfl, rfl, rfl, h4, r4⟩ := trodAll_cons r3
  obtain ⟨rfl, rfl, rfl⟩ := trodAll_nil r4
  obtain rfl : args = #[v0, v1, v2, v3, v4] := by cases args; simp_all
  obtain ⟨rfl, rfl⟩ := trodVars_none hV
  obtain ⟨zs0, rfl, lz0, bz0⟩ := open_ints (ts := [3, 3]) Try.underlying23 rfl (by kernel_rfl) (by kernel_rfl) ints23 (hval 0 23 v0 rfl rfl)
  obtain ⟨a0_0, a0_1, rfl, w0_0, w0_1⟩ := ints2 lz0 bz0
  obtain ⟨zs1, rfl, lz1, bz1⟩ := open_ints (ts := [3, 3]) Try.underlying23 rfl (by kernel_rfl) (by kernel_rfl) ints23 (hval 1 23 v1 rfl rfl)
  obtain ⟨a1_0, a1_1, rfl, w1_0, w1_1⟩ := ints2 lz1 bz1
  obtain ⟨zs2, rfl, lz2, bz2⟩ := open_ints (ts := [3, 3]) Try.underlying23 rfl (by kernel_rfl) (by kernel_rfl) ints23 (hval 2 23 v2 rfl rfl)
  obtain ⟨a2_0, a2_1, rfl, w2_0, w2_1⟩ := ints2 lz2 bz2
  obtain ⟨a3, rfl, rfl, rfl, w3⟩ := open_int Try.underlying32 (hval 3 32 v3 rfl rfl) h3
  obtain ⟨a4, rfl, rfl, rfl, w4⟩ := open_int Try.underlying32 (hval 4 32 v4 rfl rfl) h4
  clear hA0 hval0
  simp only [List.append_nil] at hW' hAk
  refine (curveShifts_walk a0_0 a0_1 a1_0 a1_1 a2_0 a2_1 a3 a4 W (bounds_i16 w3) (bounds_i16 w4)).mono fun e W' ⟨he, hg⟩ => ?_
  subst he
  exact ⟨_, rfl, post_law laid readable hW' hAk rfl (fun _ _ _ => (trodAll_cons_mk (shut_bool Try.underlying4 _) trodAll_mk0)) rfl (fun _ => rfl) hg⟩

theorem over : Rows.curveShiftsRow.holds Try.pinned (OpenSpec.ofChange Rows.curveShiftsSpec) :=
  OpenClaim.holds_of_wide 7 Try.f7 rfl rfl rfl rfl rfl rfl rfl ⟨rfl, rfl, rfl, rfl, rfl⟩ rfl rfl rfl rfl rfl (by kernel_rfl) Try.func7 (by kernel_rfl)
    (of_decide_eq_true (by kernel_rfl)) (by unfold Func.isWrapper; first | (rw [if_pos (by decide +kernel)]; kernel_rfl) | (rw [if_neg (by decide +kernel)]; exact ⟨rfl, rfl⟩))
    (fun os started H enc _ => lifted os started H enc)

end Go.Proofs.Ytpeknlablcgchaa.curveShifts
namespace Go.Proofs.Ytpeknlablcgchaa
theorem curveShifts_holds : Rows.CurveShiftsSaid := curveShifts.over
#print axioms curveShifts_holds
end Go.Proofs.Ytpeknlablcgchaa
