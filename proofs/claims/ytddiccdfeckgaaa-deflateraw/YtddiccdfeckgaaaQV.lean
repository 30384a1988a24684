import Derived.Test.YtddiccdfeckgaaaQO
import Derived.Test.YtddiccdfeckgaaaAe4
import Derived.BigRegion
/- Layer 6: the document's Close. -/
namespace Go.Proofs.Ytddiccdfeckgaaa
open Go.RowKit
set_option maxRecDepth 100000
set_option linter.unusedVariables false
set_option linter.unusedSimpArgs false
theorem below_cell {W w9 : World} (h : Below W.heap.size W w9) : ∀ (g k : Nat), g < W.heap.size → w9.cell? ⟨g, k, none⟩ = W.cell? ⟨g, k, none⟩ := fun g k hg => h.cell (p := ⟨g, k, none⟩) hg
theorem below_lt {W w9 : World} (h : Below W.heap.size W w9) : ∀ g : Nat, g < W.heap.size → g < w9.heap.size := fun g hg => Nat.lt_of_lt_of_le hg h.size
theorem below_ne {W w9 : World} (h : Below W.heap.size W w9) : ∀ g : Nat, g < W.heap.size → g ≠ w9.heap.size := fun g hg => by have := h.size; omega
theorem below_en {W w9 : World} (h : Below W.heap.size W w9) : ∀ g : Nat, g < W.heap.size → w9.heap.size ≠ g := fun g hg => by have := h.size; omega
theorem conv2 (W : World) (g : Nat) (c0 : W.cell? ⟨g, 0, none⟩ = some (.int .u8 120)) (c1 : W.cell? ⟨g, 1, none⟩ = some (.int .u8 156)) : (convert 38 9 (.slice (some ⟨g, 0, none⟩) 2 2)).run Try.prog W = .ok (.string ⟨#[120, 156]⟩) W := by
  refine run_convert_bytes_back (P := Try.prog) W 38 9 5 ⟨g, 0, none⟩ 2 [120, 156] Try.underlying38 Try.underlying5 Try.underlying9 (fun j hj => ?_)
  rw [Addr.add_mid, Nat.zero_add]
  have : j = 0 ∨ j = 1 := by simp at hj; omega
  rcases this with rfl | rfl
  · exact c0
  · exact c1
theorem conv4 (W : World) (g a b c d : Nat) (ha : a < 256) (hb : b < 256) (hc : c < 256) (hd : d < 256) (c0 : W.cell? ⟨g, 0, none⟩ = some (.int .u8 (a : Int))) (c1 : W.cell? ⟨g, 1, none⟩ = some (.int .u8 (b : Int))) (c2 : W.cell? ⟨g, 2, none⟩ = some (.int .u8 (c : Int))) (c3 : W.cell? ⟨g, 3, none⟩ = some (.int .u8 (d : Int))) : (convert 38 9 (.slice (some ⟨g, 0, none⟩) 4 4)).run Try.prog W = .ok (.string (bs [UInt8.ofNat a, UInt8.ofNat b, UInt8.ofNat c, UInt8.ofNat d])) W := by
  refine run_convert_bytes_back (P := Try.prog) W 38 9 5 ⟨g, 0, none⟩ 4 [UInt8.ofNat a, UInt8.ofNat b, UInt8.ofNat c, UInt8.ofNat d] Try.underlying38 Try.underlying5 Try.underlying9 (fun j hj => ?_)
  rw [Addr.add_mid, Nat.zero_add]
  have : j = 0 ∨ j = 1 ∨ j = 2 ∨ j = 3 := by simp at hj; omega
  rcases this with rfl | rfl | rfl | rfl
  · rw [c0]; simp only [List.getElem_cons_zero]; rw [u8q a ha]
  · rw [c1]; simp only [List.getElem_cons_succ, List.getElem_cons_zero]; rw [u8q b hb]
  · rw [c2]; simp only [List.getElem_cons_succ, List.getElem_cons_zero]; rw [u8q c hc]
  · rw [c3]; simp only [List.getElem_cons_succ, List.getElem_cons_zero]; rw [u8q d hd]
theorem conv2a (w9 : World) : ∀ (X : Obj) (g : Nat), g < w9.heap.size → w9.cell? ⟨g, 0, none⟩ = some (.int .u8 120) → w9.cell? ⟨g, 1, none⟩ = some (.int .u8 156) → (convert 38 9 (.slice (some ⟨g, 0, none⟩) 2 2)).run Try.prog (w9.alloc X) = .ok (.string ⟨#[120, 156]⟩) (w9.alloc X) := fun X g hg c0 c1 =>
  conv2 _ g (((bq_alloc (bq_refl w9) X).cell (p := ⟨g, 0, none⟩) hg).trans c0) (((bq_alloc (bq_refl w9) X).cell (p := ⟨g, 1, none⟩) hg).trans c1)
theorem conv4a (w9 : World) (a b c d : Nat) (T : ByteArray) (h : ∀ (W : World) (g : Nat), W.cell? ⟨g, 0, none⟩ = some (.int .u8 (a : Int)) → W.cell? ⟨g, 1, none⟩ = some (.int .u8 (b : Int)) → W.cell? ⟨g, 2, none⟩ = some (.int .u8 (c : Int)) → W.cell? ⟨g, 3, none⟩ = some (.int .u8 (d : Int)) → (convert 38 9 (.slice (some ⟨g, 0, none⟩) 4 4)).run Try.prog W = .ok (.string T) W) :
    ∀ (X : Obj) (g : Nat), g < w9.heap.size → w9.cell? ⟨g, 0, none⟩ = some (.int .u8 (a : Int)) → w9.cell? ⟨g, 1, none⟩ = some (.int .u8 (b : Int)) → w9.cell? ⟨g, 2, none⟩ = some (.int .u8 (c : Int)) → w9.cell? ⟨g, 3, none⟩ = some (.int .u8 (d : Int)) → (convert 38 9 (.slice (some ⟨g, 0, none⟩) 4 4)).run Try.prog (w9.alloc X) = .ok (.string T) (w9.alloc X) := fun X g hg c0 c1 c2 c3 =>
  h _ g (((bq_alloc (bq_refl w9) X).cell (p := ⟨g, 0, none⟩) hg).trans c0) (((bq_alloc (bq_refl w9) X).cell (p := ⟨g, 1, none⟩) hg).trans c1) (((bq_alloc (bq_refl w9) X).cell (p := ⟨g, 2, none⟩) hg).trans c2) (((bq_alloc (bq_refl w9) X).cell (p := ⟨g, 3, none⟩) hg).trans c3)
set_option maxHeartbeats 16000000 in
theorem rclose6_any (s : ByteArray) (w : World) (hs : s.size ≤ 2048) (H : Hid (∀ W, Calls Try.prog 12 #[.string s] W fun e w' => e = .returned (.string (bs (D.pack s))) ∧ Below W.heap.size W w')) :
    Calls Try.prog 13 #[.string s] w fun e w' => e = .returned (.string (bs (clsL s))) ∧ Below w.heap.size w w' := by
  have HSU := Lib.hid (fun W => Ad.refsum_any s W (by omega))
  have hpl := D.pack_le s
  obtain ⟨h1, hS2⟩ := D.sm_eq s
  rw [h1] at HSU
  obtain ⟨S, hS⟩ : ∃ S, S = D.sm s := ⟨_, rfl⟩
  obtain ⟨O, hO⟩ : ∃ O, O = bs (D.pack s) := ⟨_, rfl⟩
  have hOs : O.size ≤ 600000 := by rw [hO, bs_size]; omega
  rw [← hS] at HSU hS2
  rw [← hO] at H
  have HSO := Lib.hid (And.intro hS hO)
  obtain ⟨S0, hS0⟩ : ∃ x, x = S / 16777216 := ⟨_, rfl⟩
  obtain ⟨Q1, hQ1⟩ : ∃ x, x = S / 65536 := ⟨_, rfl⟩
  obtain ⟨S1, hS1⟩ : ∃ x, x = Q1 % 256 := ⟨_, rfl⟩
  obtain ⟨Q2, hQ2⟩ : ∃ x, x = S / 256 := ⟨_, rfl⟩
  obtain ⟨S2, hS2'⟩ : ∃ x, x = Q2 % 256 := ⟨_, rfl⟩
  obtain ⟨S3, hS3⟩ : ∃ x, x = S % 256 := ⟨_, rfl⟩
  have hb0 : S0 < 256 := by omega
  have hb1 : S1 < 256 := by omega
  have hb2 : S2 < 256 := by omega
  have hb3 : S3 < 256 := by omega
  obtain ⟨T, hT⟩ : ∃ T, T = bs [UInt8.ofNat S0, UInt8.ofNat S1, UInt8.ofNat S2, UInt8.ofNat S3] := ⟨_, rfl⟩
  have HTL : Hid (T = bs (D.tl S)) := Lib.hid (by rw [hT, hS0, hS1, hS2', hS3, hQ1, hQ2]; rfl)
  have hTs : T.size = 4 := by rw [hT]; rfl
  have q0 : (S : Int) / 16777216 = (S0 : Int) := by omega
  have q1 : (S : Int) / 65536 = (Q1 : Int) := by omega
  have q2 : (S : Int) / 256 = (Q2 : Int) := by omega
  have m1 : (Q1 : Int).tmod 256 = (S1 : Int) := by rw [Int.tmod_eq_emod_of_nonneg (by omega)]; omega
  have m2 : (Q2 : Int).tmod 256 = (S2 : Int) := by rw [Int.tmod_eq_emod_of_nonneg (by omega)]; omega
  have m3 : (S : Int).tmod 256 = (S3 : Int) := by rw [Int.tmod_eq_emod_of_nonneg (by omega)]; omega
  have w0 : IntKind.i64.wrap (S0 : Int) = (S0 : Int) := i64_wrap _ (by omega) (by omega)
  have w1 : IntKind.i64.wrap (Q1 : Int) = (Q1 : Int) := i64_wrap _ (by omega) (by omega)
  have w2 : IntKind.i64.wrap (Q2 : Int) = (Q2 : Int) := i64_wrap _ (by omega) (by omega)
  have u0 : IntKind.u8.wrap (S0 : Int) = (S0 : Int) := by rw [IntKind.wrap_u8]; omega
  have u1 : IntKind.u8.wrap (S1 : Int) = (S1 : Int) := by rw [IntKind.wrap_u8]; omega
  have u2 : IntKind.u8.wrap (S2 : Int) = (S2 : Int) := by rw [IntKind.wrap_u8]; omega
  have u3 : IntKind.u8.wrap (S3 : Int) = (S3 : Int) := by rw [IntKind.wrap_u8]; omega
  have hcv2 : ∀ (W : World) (g : Nat), W.cell? ⟨g, 0, none⟩ = some (.int .u8 120) → W.cell? ⟨g, 1, none⟩ = some (.int .u8 156) → (convert 38 9 (.slice (some ⟨g, 0, none⟩) 2 2)).run Try.prog W = .ok (.string ⟨#[120, 156]⟩) W := fun W g c0 c1 => conv2 W g c0 c1
  have hcv4 : ∀ (W : World) (g : Nat), W.cell? ⟨g, 0, none⟩ = some (.int .u8 (S0 : Int)) → W.cell? ⟨g, 1, none⟩ = some (.int .u8 (S1 : Int)) → W.cell? ⟨g, 2, none⟩ = some (.int .u8 (S2 : Int)) → W.cell? ⟨g, 3, none⟩ = some (.int .u8 (S3 : Int)) → (convert 38 9 (.slice (some ⟨g, 0, none⟩) 4 4)).run Try.prog W = .ok (.string T) W := fun W g c0 c1 c2 c3 => by rw [hT]; exact conv4 W g S0 S1 S2 S3 hb0 hb1 hb2 hb3 c0 c1 c2 c3
  have HC4 := Lib.hid hcv4
  have hlx : w.heap.size < w.heap.size + 1 + 1 := by omega
  have hlx2 : w.heap.size < w.heap.size + 2 := by omega
  have hly : w.heap.size + 1 < w.heap.size + 1 + 1 := by omega
  have hly2 : w.heap.size + 1 < w.heap.size + 2 := by omega
  have hd0 : Below w.heap.size w w.drew := bq_drew (bq_refl w)
  clear h1 hS hO hpl hT hS0 hQ1 hS1 hQ2 hS2' hS3
  go_enter Try.func13, Try.ntmps13
  go_upto_region 2 with (go_at_call 33; refine (HSU.out _).mono ?_; rintro e w' ⟨rfl, rfl⟩)
  go_region_with (go_at_call 12; refine (H.out _).mono ?_; rintro e w9 ⟨rfl, hb9⟩; have hbw : Below w.heap.size w w9 := bq_trans (by first | exact hd0 | exact bq_drew (bq_alloc (bq_refl w) _) | exact bq_drew (bq_alloc (bq_alloc (bq_refl w) _) _)) hb9; have hcl := below_cell hb9; have hlt9 := below_lt hb9; have hca2 := conv2a w9; have hca4 := conv4a w9 S0 S1 S2 S3 T HC4.out)
  all_goals
    have hfin : Hid (∀ W, Below w.heap.size w W → W = W) := Lib.hid (fun _ _ => rfl)
    go_wp2
    go_ret
    refine ⟨?_, by first | exact hbw | exact bq_alloc hbw _ | exact bq_alloc (bq_alloc hbw _) _ | exact hbw.drew | exact (bq_alloc hbw _).drew | exact (bq_alloc (bq_alloc hbw _) _).drew⟩
    have e : bs (clsL s) = ⟨#[120, 156]⟩ ++ O ++ T := by
      rw [HTL.out, HSO.out.1, HSO.out.2]
      apply ByteArray.ext
      simp [ByteArray.data_append, bs, clsL]
    rw [e]
    rfl
end Go.Proofs.Ytddiccdfeckgaaa
