/-
  Layer 8: whether any fill, and any line, is right, and whether two fills are equal, is told as the document says.
  Conditions: none beyond the row's own: every argument that fits its kind, in whatever memory.
-/
import Derived.Test.YthlnjipefeglpaaRows
import Derived.Test.YthlnjipefeglpaaZU0
import Derived.Test.YthlnjipefeglpaaZU47
import Derived.Test.YthlnjipefeglpaaZU48
import Derived.WalkKit
import Derived.ProofKit
import Derived.OpenShut
import Derived.Lib.SmallJoins
namespace Go.Proofs.Ythlnjipefeglpaa.styleRights
open Go.ChangeShapes Go.WideShapes Go.ChangeAt Go.RowKit
set_option linter.unusedVariables false
set_option linter.unusedSimpArgs false

theorem own : ownKnob Try.prog.godebug = none := by kernel_rfl
theorem laid : laidOutB Try.prog = true := by kernel_rfl
theorem readable : ∀ t ∈ Try.f3.params.toList, Try.prog.readableRec t = true ∧ t < Try.prog.types.size := by
  rw [Try.params3]
  intro t ht
  simp only [List.mem_cons, List.not_mem_nil, or_false] at ht
  rcases ht with rfl | rfl | rfl
  all_goals exact ⟨by kernel_rfl, of_decide_eq_true (by kernel_rfl)⟩

set_option maxRecDepth 100000 in
theorem lifted (os : Os) (started : os.Started) (H : Type) (enc : TypeId × Value → H) :
    ReturnsInHanded {} Try.checked os 3 .any (Rows.styleRightsSpec.pre6 enc Try.prog Try.f3 Rows.styleRightsRow.domain false) (Rows.styleRightsSpec.post enc Try.prog Try.f3 false true false false) := by
  refine returnsInHanded_of_change (C := Try.checked) own started (by kernel_rfl) Try.func3
    (ChangeSpec.witness6 (enc := enc) (C := Try.checked) false ⟨#[], #[.agg #[.int .i64 0, .int .i64 0, .int .i64 0, .int .i64 0, .int .i64 0, .int .i64 0, .int .i64 0, .int .i64 0, .int .i64 0, .int .i64 0, .int .i64 0, .int .i64 0, .slice none 0 0, .int .i64 0], .agg #[.int .i64 0, .int .i64 0, .int .i64 0, .int .i64 0, .int .i64 0, .int .i64 0, .int .i64 0, .int .i64 0, .int .i64 0, .int .i64 0, .int .i64 0, .int .i64 0, .slice none 0 0, .int .i64 0], .agg #[.int .i64 0, .int .i64 0, .int .i64 0, .int .i64 0, .int .i64 0]], []⟩ 8 (by kernel_rfl) (by kernel_rfl) (by kernel_rfl) (by kernel_rfl)) ?_
  intro W base args ds gs before hval0 hW hcnd _
  have hval : ∀ (j : Nat) t v, Try.f3.params[j]? = some t → args[j]? = some v → Value.okWide Try.prog W .any base t v := hval0
  have hW' := hW
  obtain ⟨p, q, hA0, hV, rfl, hfz, hnd⟩ := hW
  have hA : DataW.TrodAll enc Try.prog W 0 (fun _ => true) true Try.f3.params.toList args.toList ds p := hA0
  have hAk := hA
  rw [Try.params3] at hA hval
  obtain ⟨v0, vs0, d0, ds0, p0, q0, hargs, rfl, rfl, h0, r0⟩ := trodAll_cons hA
  obtain ⟨v1, vs1, d1, ds1, p1, q1, rfl, rfl, rfl, h1, r1⟩ := trodAll_cons r0
  obtain ⟨v2, vs2, d2, ds2, p2, q2, rfl, rfl, rfl, h2, r2⟩ := trodAll_cons r1
  obtain ⟨rfl, rfl, rfl⟩ := trodAll_nil r2
  obtain rfl : args = #[v0, v1, v2] := by cases args; simp_all
  obtain ⟨rfl, rfl⟩ := trodVars_none hV
  obtain ⟨cs0, rfl, lz0, _⟩ := okWide_row (d := .struct _) Try.underlying28 rfl (hval 0 28 v0 rfl rfl)
  obtain ⟨cs1, rfl, lz1, _⟩ := okWide_row (d := .struct _) Try.underlying28 rfl (hval 1 28 v1 rfl rfl)
  obtain ⟨cs2, rfl, lz2, _⟩ := okWide_row (d := .struct _) Try.underlying30 rfl (hval 2 30 v2 rfl rfl)
  clear hA0 hval0
  simp only [List.append_nil] at hW' hAk
  have key : Calls Try.prog 3 #[.agg cs0, .agg cs1, .agg cs2] W fun e w' => e = .returned (.bool true) ∧ Below W.heap.size W w' := by
    obtain ⟨fu0, hf0⟩ := h0
    obtain ⟨fu1, hf1⟩ := h1
    obtain ⟨fu2, hf2⟩ := h2
    obtain ⟨F, hF, s1, e1, S1⟩ := fill_of (cs := cs0.toList) (by rw [Array.length_toList]; exact lz0.trans (by kernel_rfl)) hf0
    obtain ⟨G, hG, s2, e2, S2⟩ := fill_of (cs := cs1.toList) (by rw [Array.length_toList]; exact lz1.trans (by kernel_rfl)) hf1
    obtain ⟨x, l5, e5, b5⟩ := num5_of (cs := cs2.toList) Try.underlying30 ⟨rfl, rfl⟩ ⟨rfl, rfl⟩ (by rw [Array.length_toList]; exact lz2.trans (by kernel_rfl)) hf2
    have k0 : cs0 = (fillC F s1).toArray := by rw [← e1]
    have k1 : cs1 = (fillC G s2).toArray := by rw [← e2]
    have k2 : cs2 = (iL x).toArray := by rw [← e5]
    rw [k0, k1, k2]
    exact styleRights_walk F G s1 s2 x W hF hG S1 S2 l5 b5
  refine (key).mono fun e W' ⟨he, hg⟩ => ?_
  subst he
  exact ⟨_, rfl, post_law laid readable hW' hAk rfl (fun _ _ _ => (trodAll_cons_mk (shut_bool Try.underlying4 _) trodAll_mk0)) rfl (fun _ => rfl) hg⟩

theorem over : Rows.styleRightsRow.holds Try.pinned (OpenSpec.ofChange Rows.styleRightsSpec) :=
  OpenClaim.holds_of_wide 3 Try.f3 rfl rfl rfl rfl rfl rfl rfl ⟨rfl, rfl, rfl, rfl, rfl⟩ rfl rfl rfl rfl rfl (by kernel_rfl) Try.func3 (by kernel_rfl)
    (of_decide_eq_true (by kernel_rfl)) (by unfold Func.isWrapper; first | (rw [if_pos (by decide +kernel)]; kernel_rfl) | (rw [if_neg (by decide +kernel)]; exact ⟨rfl, rfl⟩))
    (fun os started H enc _ => lifted os started H enc)

end Go.Proofs.Ythlnjipefeglpaa.styleRights
namespace Go.Proofs.Ythlnjipefeglpaa
theorem styleRights_holds : Rows.StyleRightsSaid := styleRights.over
#print axioms styleRights_holds
end Go.Proofs.Ythlnjipefeglpaa
