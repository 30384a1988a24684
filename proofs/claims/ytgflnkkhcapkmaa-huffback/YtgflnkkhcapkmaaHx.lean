import Derived.Test.YtgflnkkhcapkmaaHw
/- Layer 4: the fixed answer. -/
namespace Go.Proofs.Ytgflnkkhcapkmaa
open Go.RowKit
set_option linter.unusedVariables false

theorem ints122 (w : World) : Hid (Ints (w.alloc (.cells #[.int .i64 1, .int .i64 2, .int .i64 2] 3)) [1, 2, 2] (some ⟨w.heap.size, 0, none⟩) w.heap.size 0) := by
  have hB := blk_new w #[.int .i64 1, .int .i64 2, .int .i64 2] 3
  refine Lib.hid ⟨Or.inr rfl, ?_, ?_⟩
  · intro i h
    have : i = 0 ∨ i = 1 ∨ i = 2 := by simp at h; omega
    rcases this with rfl | rfl | rfl <;> simp
  · intro i h
    have : i = 0 ∨ i = 1 ∨ i = 2 := by simp at h; omega
    rcases this with rfl | rfl | rfl
    · exact hB.cell 0
    · exact hB.cell 1
    · exact hB.cell 2
theorem err122 : errN [1, 2, 2] = 0 := by decide +kernel
theorem cds122 : intA (Hf.cd [1, 2, 2]) [(1 : Int), 2, 2].length = #[.int .i64 0, .int .i64 2, .int .i64 3] := by kernel_rfl
theorem nx122 : nxR [1, 2, 2] ⟨#[5]⟩ 0 = .tuple #[.int .i64 1, .int .i64 2, .int .i64 0] := by kernel_rfl
set_option maxHeartbeats 1000000 in
theorem awake_any (w : World) : Calls Try.prog 8 #[] w fun e w' => e = .returned (.bool true) ∧ Below w.heap.size w w' := by
  have HN := Lib.hid (fun w => new_ok [1, 2, 2] (some ⟨w.heap.size, 0, none⟩) w.heap.size 0 3 (w.alloc (.cells #[.int .i64 1, .int .i64 2, .int .i64 2] 3)) (ints122 w) err122)
  have HC := Lib.hid (fun w => codes_ok [1, 2, 2] (some ⟨w.heap.size, 0, none⟩) w.heap.size 0 3 (w.alloc (.cells #[.int .i64 1, .int .i64 2, .int .i64 2] 3)) (ints122 w) err122)
  go_enter Try.func8, Try.ntmps8
  go_wp2_with fail
  refine (HN.out _).mono ?_
  rintro e w1 ⟨b1, l1, hb1, rfl, hbel1⟩
  have H1 := Lib.hid (bq_trans (bq_alloc (bq_refl w) _) hbel1)
  clear hbel1 l1 HN
  go_upto_region 2 with (first
    | (refine wl_alloc 27 _ zero27 rfl rfl ?_; intro W2 b2 B2 l2 k2)
    | (refine wl_store 27 17 size27 _ _ rfl rfl _ rfl _ rfl _ _ B2 (tabA_size _ _ _) (tabA_size _ _ _) (tabA_one _ _ _) ?_; intro W3 hB3 hT3))
  have z1 := H1.out.size
  have z2 := hb1.lt
  have C1 := hT3.blk (hb1.keep k2) (by omega)
  have H2 := Lib.hid (hT3.below (bq_trans H1.out k2) (by omega))
  clear H1 hT3 B2 l2 k2 hb1 z1 z2
  go_wp2_with fail
  refine (HC.out _).mono ?_
  rintro e w4 ⟨b4, l4, hb4, rfl, hbel4⟩
  have H4 := Lib.hid (bq_trans H2.out (bq_trans (bq_alloc (bq_refl W3) _) hbel4))
  have D1 := (C1.alloc (.cells #[.int .i64 1, .int .i64 2, .int .i64 2] 3)).keep hbel4
  have D3 := (hB3.alloc (.cells #[.int .i64 1, .int .i64 2, .int .i64 2] 3)).keep hbel4
  rw [cds122] at hb4
  clear hbel4 l4 HC H2 C1 hB3
  have HX := Lib.hid (next_any [1, 2, 2] ⟨#[5]⟩ 0 b1 w4 (by decide) (by decide) (by decide) D1)
  rw [nx122] at HX
  go_wp2_with (first
    | (refine wl_load 27 17 _ Try.underlying27 rfl size27 _ rfl rfl _ rfl _ _ D3 (tabA_size _ _ _) ?_)
    | (go_at_call 13; refine HX.out.mono ?_; rintro e w5 ⟨rfl, hb5⟩; have g1 := ((hb4.keep hb5).cell 1); have g2 := ((hb4.keep hb5).cell 2); simp at g1 g2))
  go_ret
  exact ⟨rfl, bq_trans H4.out hb5⟩
end Go.Proofs.Ytgflnkkhcapkmaa
