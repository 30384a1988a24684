import Derived.Test.YtoofjcpapidgdaaBic
import Derived.Test.YtoofjcpapidgdaaBi4
import Derived.Test.YtoofjcpapidgdaaBi9
/- Layer 2: the fixed answer. -/
namespace Go.Proofs.Ytoofjcpapidgdaa
open Go.RowKit
set_option linter.unusedVariables false

theorem aw1 (w : World) : Calls Try.prog 21 #[.agg #[.string ⟨#[]⟩, .int .i64 0], .int .i64 5, .int .i64 3] w fun e w' => e = .returned (.tuple #[.agg #[.string ⟨#[160]⟩, .int .i64 5], .int .i64 0]) ∧ Below w.heap.size w w' := by
  have h := putplain_any ⟨#[]⟩ 0 5 3 w (by decide)
  rw [show ppOk 5 3 = true by decide, if_pos rfl, show ppR ⟨#[]⟩ 0 (Int.toNat 5) (Int.toNat 3) = .tuple #[.agg #[.string ⟨#[160]⟩, .int .i64 5], .int .i64 0] by rfl] at h
  exact h
theorem aw2 (w : World) : Calls Try.prog 22 #[.agg #[.string ⟨#[160]⟩, .int .i64 5], .int .i64 (-1), .int .i64 2] w fun e w' => e = .returned (.tuple #[.agg #[.string ⟨#[184]⟩, .int .i64 3], .int .i64 0]) ∧ Below w.heap.size w w' := by
  have h := putsigned_any ⟨#[160]⟩ 5 (-1) 2 w (by decide) (by decide) (by decide)
  rw [show psOk (-1) 2 = true by decide, if_pos rfl, show ppR ⟨#[160]⟩ 5 (sgU (-1) (Int.toNat 2)) (Int.toNat 2) = .tuple #[.agg #[.string ⟨#[184]⟩, .int .i64 3], .int .i64 0] by rfl] at h
  exact h
theorem aw3 (w : World) : Calls Try.prog 11 #[.agg #[.string ⟨#[184]⟩, .int .i64 3], .int .i64 2] w fun e w' => e = .returned (.tuple #[.int .i64 (-1), .agg #[.string ⟨#[184]⟩, .int .i64 5], .int .i64 0]) ∧ Below w.heap.size w w' := by
  have h := signed_any ⟨#[184]⟩ 3 2 w (by decide)
  rw [show sgR ⟨#[184]⟩ 3 2 = .tuple #[.int .i64 (-1), .agg #[.string ⟨#[184]⟩, .int .i64 5], .int .i64 0] by rfl] at h
  exact h
theorem aw4 (g c : Nat) (w : World) (h : w.cell? ⟨g, 0, none⟩ = some (.int .i64 1)) : Calls Try.prog 31 #[.slice (some ⟨g, 0, none⟩) 1 c] w fun e w' => e = .returned (.int .i64 2) ∧ w = w' := by
  have hz : ∀ i (h : i < ([1] : List Int).length), -9223372036854775808 ≤ ([1] : List Int)[i] ∧ ([1] : List Int)[i] ≤ 9223372036854775807 := by
    intro i hi
    have : i = 0 := by simpa using hi
    subst this
    show -9223372036854775808 ≤ (1 : Int) ∧ (1 : Int) ≤ 9223372036854775807
    omega
  have hc : ∀ i (h : i < ([1] : List Int).length), w.cell? ⟨g, 0 + i, none⟩ = some (.int .i64 ([1] : List Int)[i]) := by
    intro i hi
    have : i = 0 := by simpa using hi
    subst this
    exact h
  have h2 := width_list [1] (some ⟨g, 0, none⟩) g 0 c w (by decide) (Lib.hid (Or.inr rfl)) (Lib.hid hz) (Lib.hid hc)
  rw [show (mxW [1] : Int) = 2 by rfl] at h2
  exact h2
set_option maxHeartbeats 1000000 in
theorem awake_any (w : World) : Calls Try.prog 9 #[] w fun e w' => e = .returned (.bool true) ∧ Below w.heap.size w w' := by
  go_enter Try.func9, Try.ntmps9
  go_wp2_with fail
  refine (aw1 _).mono ?_
  rintro e w1 ⟨rfl, hb1⟩
  go_wp2_with fail
  have hw1 := hb1.size
  have B1 := box_new w1 (.string ⟨#[160]⟩) (.int .i64 5) 40
  have H1 := bq_alloc hb1 (.cells #[.string ⟨#[160]⟩, .int .i64 5] 40)
  generalize w1.alloc (.cells #[.string ⟨#[160]⟩, .int .i64 5] 40) = W1 at B1 H1 ⊢
  clear hb1
  refine (aw2 _).mono ?_
  rintro e w2 ⟨rfl, hb2⟩
  obtain ⟨c0, c1, f0, f1, cz⟩ := B1.keep hb2
  have H2 := Lib.hid (bq_trans H1 hb2)
  have h12 : w.heap.size ≤ w1.heap.size := hw1
  clear hb2 H1 B1
  go_wp2_with fail
  have B2 : Box ((w2.setCell ⟨w1.heap.size, 0, none⟩ (.string ⟨#[184]⟩)).setCell ⟨w1.heap.size, 1, none⟩ (.int .i64 3)) w1.heap.size (.string ⟨#[184]⟩) (.int .i64 3) := (Box.set0 ⟨c0, c1, f0, f1, cz⟩ _).set1 _
  have H3 := bq_set (bq_set H2.out ⟨w1.heap.size, 0, none⟩ h12 (.string ⟨#[184]⟩)) ⟨w1.heap.size, 1, none⟩ h12 (.int .i64 3)
  generalize (w2.setCell ⟨w1.heap.size, 0, none⟩ (.string ⟨#[184]⟩)).setCell ⟨w1.heap.size, 1, none⟩ (.int .i64 3) = W2 at B2 H3 ⊢
  clear c0 c1 f0 f1 cz H2
  refine (aw3 _).mono ?_
  rintro e w3 ⟨rfl, hb3⟩
  obtain ⟨c0, c1, f0, f1, cz⟩ := B2.keep hb3
  have H4 := Lib.hid (bq_trans H3 hb3)
  have ne1 : ¬ w1.heap.size = w3.heap.size := by omega
  have lt1 : w1.heap.size < w3.heap.size := by omega
  clear hb3 H3 B2
  go_wp2_with fail
  have hcell : ((w3.alloc (.cells #[.string ⟨#[184]⟩, .int .i64 5] 23)).alloc (.cells #[.int .i64 1] 3)).cell? ⟨w3.heap.size + 1, 0, none⟩ = some (.int .i64 1) := by
    have e : w3.heap.size + 1 = (w3.alloc (.cells #[.string ⟨#[184]⟩, .int .i64 5] 23)).heap.size := by simp
    rw [e, World.cell?_alloc_new]
    rfl
  refine (aw4 _ _ _ hcell).mono ?_
  rintro e w4 ⟨rfl, rfl⟩
  clear hcell
  go_wp2
  go_ret
  exact ⟨rfl, bq_alloc (bq_alloc H4.out _) _⟩
end Go.Proofs.Ytoofjcpapidgdaa
