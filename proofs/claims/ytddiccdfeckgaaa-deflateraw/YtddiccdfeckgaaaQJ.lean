import Derived.Test.YtddiccdfeckgaaaQI
/- Layer 6: lengths and distances are written. -/
namespace Go.Proofs.Ytddiccdfeckgaaa
open Go.RowKit
set_option maxRecDepth 100000
set_option linter.unusedVariables false
set_option linter.unusedSimpArgs false
theorem D.lt_len (v : Nat) (h : v < 65536) : v < D.two (Lib.bitLen v) := by
  rw [D.two_pow]
  refine Nat.lt_of_not_le fun h2 => ?_
  have h3 := Lib.bitLen_shift _ _ h2 (by omega)
  have h4 : 0 < v / 2 ^ Lib.bitLen v := Nat.div_pos h2 (Nat.two_pow_pos _)
  have h5 : v / 2 ^ Lib.bitLen v < 2 ^ 64 := Nat.lt_of_le_of_lt (Nat.div_le_self _ _) (by omega)
  have h6 := Lib.bitLen_half _ (by omega) h5
  omega
theorem D.two_add (a b : Nat) : D.two (a + b) = D.two a * D.two b := by rw [D.two_pow, D.two_pow, D.two_pow, Nat.pow_add]
/-- the symbol's upper bits -/
theorem D.sS_lt (v u : Nat) (h : v < 65536) (hu : 1 ≤ u) : v / D.two (D.sN v u) < D.two u := by
  have h1 := D.lt_len v h
  have hp := D.two_pos (D.sN v u)
  rw [Nat.div_lt_iff_lt_mul hp, ← D.two_add]
  refine Nat.lt_of_lt_of_le h1 ?_
  rw [D.two_pow, D.two_pow]
  refine Nat.pow_le_pow_right (by omega) ?_
  unfold D.sN
  omega
theorem D.sR_lt (v u : Nat) : D.sR v u < D.two (D.sN v u) := Nat.mod_lt _ (D.two_pos _)
theorem D.sN_le (v u k : Nat) (h : v < 2 ^ (u + k)) (hk : u + k ≤ 16) : D.sN v u ≤ k := by
  have := Lib.bitLen_le v (u + k) (by omega) h
  unfold D.sN
  omega
/-- a length's bits -/
def D.lb (n : Nat) : List Nat := if n = 258 then D.sc 285 else D.sc (257 + D.sS (n - 3) 3) ++ D.nb (D.sR (n - 3) 3) (D.sN (n - 3) 3)
/-- a distance's bits -/
def D.db (d : Nat) : List Nat := D.hb (D.sS (d - 1) 2) 5 ++ D.nb (D.sR (d - 1) 2) (D.sN (d - 1) 2)
theorem D.sS3 (v : Nat) (h : v < 256) : D.sS v 3 ≤ 27 := by
  have h1 := D.sS_lt v 3 (by omega) (by omega)
  have h2 := D.sN_le v 3 5 (by omega) (by omega)
  have h3 : D.two 3 = 8 := by decide
  have h4 : D.two 2 = 4 := by decide
  show D.two 2 * D.sN v 3 + v / D.two (D.sN v 3) ≤ 27
  rw [h3] at h1
  rw [h4]
  omega
theorem D.sS2 (v : Nat) (h : v < 32768) : D.sS v 2 < 32 := by
  have h1 := D.sS_lt v 2 (by omega) (by omega)
  have h2 := D.sN_le v 2 13 (by omega) (by omega)
  have h3 : D.two 2 = 4 := by decide
  have h4 : D.two 1 = 2 := by decide
  show D.two 1 * D.sN v 2 + v / D.two (D.sN v 2) < 32
  rw [h3] at h1
  rw [h4]
  omega
theorem D.sc_len (n : Nat) : (D.sc n).length ≤ 9 := by
  unfold D.sc
  split
  · rw [D.hb_len]; omega
  · split
    · rw [D.hb_len]; omega
    · split
      · rw [D.hb_len]; omega
      · rw [D.hb_len]; omega
set_option maxHeartbeats 2000000 in
theorem length6_any {w : World} {B b : Nat} {sl : Value} {L : List Nat} (h : Pk w B b sl L) (hb : B ≤ b) (n : Nat) (h3 : 3 ≤ n) (h258 : n ≤ 258) (hL : L.length ≤ 7999000) :
    Calls Try.prog 22 #[.pointer (some ⟨b, 0, none⟩), .int .i64 (n : Int)] w (PkPost w B b sl (L ++ D.lb n)) := by
  have HP := Lib.hid h
  have yb := h.1.blk.lt
  clear h
  by_cases h258' : n = 258
  · have hs : D.lb n = D.sc 285 := by unfold D.lb; rw [if_pos h258']
    rw [hs]
    have HC := Lib.hid (symbol6_any HP.out 285 (by omega) (by omega))
    have t1 : ((n : Int) == 258) = true := by rw [beq_iff_eq]; omega
    clear hs h258'
    go_enter Try.func22, Try.ntmps22
    go_wp2_with (go_at_call 21; refine HC.out.mono ?_; rintro e w1 ⟨rfl, sl1, hP, hK⟩)
    refine bodyPost_ret (results_none rfl _ _ _) rfl ?_
    exact ⟨rfl, sl1, hP, hK⟩
  · have t1 : ((n : Int) == 258) = false := by rw [beq_eq_false_iff_ne]; omega
    obtain ⟨v, hv⟩ : ∃ v, v = n - 3 := ⟨_, rfl⟩
    have e1 : (n : Int) - 3 = (v : Int) := by omega
    have hv9 : v < 256 := by omega
    have hs : D.lb n = D.sc (257 + D.sS v 3) ++ D.nb (D.sR v 3) (D.sN v 3) := by unfold D.lb; rw [if_neg h258', hv]
    rw [hs]
    have HSP := Lib.hid (fun W => split_3 v W (by omega))
    have b1 := D.sS3 v hv9
    have b2 := D.sN_le v 3 5 (by omega) (by omega)
    have b3 := D.sR_lt v 3
    obtain ⟨S, hS⟩ : ∃ x, x = D.sS v 3 := ⟨_, rfl⟩
    obtain ⟨r, hr⟩ : ∃ x, x = D.sR v 3 := ⟨_, rfl⟩
    obtain ⟨k, hk⟩ : ∃ x, x = D.sN v 3 := ⟨_, rfl⟩
    rw [← hS, ← hr, ← hk] at HSP ⊢
    rw [← hS] at b1
    rw [← hk] at b2
    rw [← hr, ← hk] at b3
    obtain ⟨Y, hY⟩ : ∃ Y, Y = 257 + S := ⟨_, rfl⟩
    have eY : 257 + (S : Int) = (Y : Int) := by omega
    rw [← hY]
    have hsc := D.sc_len Y
    have HB3 := Lib.hid b3
    have hY9 : Y < 288 := by omega
    clear hs hv hS hr hk b3 hY
    go_enter Try.func22, Try.ntmps22
    go_upto_region 3 with (first
      | (go_at_call 37; refine (HSP.out _).mono ?_; rintro e w1 ⟨rfl, hb1⟩)
      | (refine wl_alloc 59 _ zeroTd rfl rfl ?_; intro W2 b4 B4 l4 k4)
      | (refine wl_store 59 3 sizeTd _ _ rfl rfl b4 rfl (tdA S r k) rfl _ _ B4 rfl rfl (tdA_one _ _ _) ?_; intro W3 C3 hT3))
    have hP1 := HP.out.keep hb1
    have z1 := hb1.size
    have hP3 := (hP1.keep k4).turned hT3 (by omega) (hP1.far l4)
    have f4 : sl.ownBlock ≠ some b4 := hP1.far l4
    have hb3 : Below w.heap.size w W3 := hT3.below (bq_trans hb1 k4) (by omega)
    have HSY := Lib.hid (symbol6_any hP3 Y hY9 (by omega))
    have HK3 := Lib.hid (Kb.of_below b sl hb3)
    have HC3 := Lib.hid C3
    have c0 : W3.cell? ⟨b4, 0, none⟩ = some (.int .i64 (S : Int)) := C3.cell 0
    clear hP1 hP3 hb1 B4 k4 hT3 hb3 HSP C3
    go_upto_region 4 with (go_at_call 21; refine HSY.out.mono ?_; rintro e w5 ⟨rfl, sl5, hP5, hK5⟩)
    have C5 := hK5.blk HC3.out (by omega) f4
    have c1 : w5.cell? ⟨b4, 1, none⟩ = some (.int .i64 (r : Int)) := C5.cell 1
    have c2 : w5.cell? ⟨b4, 2, none⟩ = some (.int .i64 (k : Int)) := C5.cell 2
    have HNM := Lib.hid (number6_any hP5 r k (by omega) HB3.out (by rw [List.length_append]; omega))
    have HK5 := Lib.hid (HK3.out.trans hK5)
    clear hP5 hK5 C5 HSY HK3 HC3 c0
    go_wp2_with (go_at_call 34; refine HNM.out.mono ?_; rintro e w6 ⟨rfl, sl6, hP6, hK6⟩)
    go_end0
    exact ⟨rfl, sl6, by rw [← List.append_assoc]; exact hP6, HK5.out.trans hK6⟩
set_option maxHeartbeats 2000000 in
theorem distance6_any {w : World} {B b : Nat} {sl : Value} {L : List Nat} (h : Pk w B b sl L) (hb : B ≤ b) (d : Nat) (h1 : 1 ≤ d) (h9 : d ≤ 32768) (hL : L.length ≤ 7999000) :
    Calls Try.prog 23 #[.pointer (some ⟨b, 0, none⟩), .int .i64 (d : Int)] w (PkPost w B b sl (L ++ D.db d)) := by
  have HP := Lib.hid h
  have yb := h.1.blk.lt
  clear h
  obtain ⟨v, hv⟩ : ∃ v, v = d - 1 := ⟨_, rfl⟩
  have e1 : (d : Int) - 1 = (v : Int) := by omega
  have hv9 : v < 32768 := by omega
  have hs : D.db d = D.hb (D.sS v 2) 5 ++ D.nb (D.sR v 2) (D.sN v 2) := by unfold D.db; rw [hv]
  rw [hs]
  have HSP := Lib.hid (fun W => split_2 v W hv9)
  have b1 := D.sS2 v hv9
  have b2 := D.sN_le v 2 13 (by omega) (by omega)
  have b3 := D.sR_lt v 2
  obtain ⟨S, hS⟩ : ∃ x, x = D.sS v 2 := ⟨_, rfl⟩
  obtain ⟨r, hr⟩ : ∃ x, x = D.sR v 2 := ⟨_, rfl⟩
  obtain ⟨k, hk⟩ : ∃ x, x = D.sN v 2 := ⟨_, rfl⟩
  rw [← hS, ← hr, ← hk] at HSP ⊢
  rw [← hS] at b1
  rw [← hk] at b2
  rw [← hr, ← hk] at b3
  have HB3 := Lib.hid b3
  clear hs hv hS hr hk b3
  go_enter Try.func23, Try.ntmps23
  go_upto_region 1 with (first
    | (go_at_call 37; refine (HSP.out _).mono ?_; rintro e w1 ⟨rfl, hb1⟩)
    | (refine wl_alloc 59 _ zeroTd rfl rfl ?_; intro W2 b4 B4 l4 k4)
    | (refine wl_store 59 3 sizeTd _ _ rfl rfl b4 rfl (tdA S r k) rfl _ _ B4 rfl rfl (tdA_one _ _ _) ?_; intro W3 C3 hT3))
  have hP1 := HP.out.keep hb1
  have z1 := hb1.size
  have hP3 := (hP1.keep k4).turned hT3 (by omega) (hP1.far l4)
  have f4 : sl.ownBlock ≠ some b4 := hP1.far l4
  have hb3 : Below w.heap.size w W3 := hT3.below (bq_trans hb1 k4) (by omega)
  have HSY := Lib.hid (code_5 hP3 S b1 (by omega))
  have HK3 := Lib.hid (Kb.of_below b sl hb3)
  have HC3 := Lib.hid C3
  have c0 : W3.cell? ⟨b4, 0, none⟩ = some (.int .i64 (S : Int)) := C3.cell 0
  clear hP1 hP3 hb1 B4 k4 hT3 hb3 HSP C3
  go_upto_region 2 with (go_at_call 36; refine HSY.out.mono ?_; rintro e w5 ⟨rfl, sl5, hP5, hK5⟩)
  have C5 := hK5.blk HC3.out (by omega) f4
  have c1 : w5.cell? ⟨b4, 1, none⟩ = some (.int .i64 (r : Int)) := C5.cell 1
  have c2 : w5.cell? ⟨b4, 2, none⟩ = some (.int .i64 (k : Int)) := C5.cell 2
  have HNM := Lib.hid (number6_any hP5 r k (by omega) HB3.out (by rw [List.length_append, D.hb_len]; omega))
  have HK5 := Lib.hid (HK3.out.trans hK5)
  clear hP5 hK5 C5 HSY HK3 HC3 c0
  go_wp2_with (go_at_call 34; refine HNM.out.mono ?_; rintro e w6 ⟨rfl, sl6, hP6, hK6⟩)
  go_end0
  exact ⟨rfl, sl6, by rw [← List.append_assoc]; exact hP6, HK5.out.trans hK6⟩
end Go.Proofs.Ytddiccdfeckgaaa
