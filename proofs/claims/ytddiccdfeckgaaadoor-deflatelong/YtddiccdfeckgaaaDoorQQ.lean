import Derived.Test.YtddiccdfeckgaaaDoorQP
/- Layer 6: a law: bytes are refused just if they are more than 2^18. -/
namespace Go.Proofs.YtddiccdfeckgaaaDoor
open Go.RowKit
set_option maxRecDepth 100000
set_option linter.unusedVariables false
set_option linter.unusedSimpArgs false
theorem bounds_i8 {m : Int} (h : (Lit.int .i8 m).wf = true) : -128 ≤ m ∧ m ≤ 127 := by
  simp [Lit.wf, IntKind.min, IntKind.max, IntKind.bits, IntKind.signed] at h
  omega
set_option maxHeartbeats 1000000 in
theorem deflateLong_walk (m : Int) (w : World) (h0 : -128 ≤ m) (h1 : m ≤ 127) (hg : Gl w) :
    Calls Tryd.prog 6 #[.int .i8 m] w fun e w' => e = .returned (.bool true) ∧ Below w.heap.size w w' := by
  have HAW := Lib.hid (fun W => awake6_any W)
  have HG := Lib.hid hg
  obtain ⟨n, hn⟩ : ∃ n : Nat, n = (262144 + m).toNat := ⟨_, rfl⟩
  have e1 : 262144 + m = (n : Int) := by omega
  have hn9 : n ≤ 262271 := by omega
  have hw : IntKind.i64.wrap m = m := i64_wrap _ (by omega) (by omega)
  obtain ⟨S, hS⟩ : ∃ S, S = bs (List.replicate n 0) := ⟨_, rfl⟩
  have hSs : S.size = n := by rw [hS, bs_size, List.length_replicate]
  have HS := Lib.hid hS
  have hmx : S.size ≤ maxLen := by unfold maxLen; omega
  have HCV : Hid (∀ W g, Blk W g (byA (List.replicate n 0)) 5 → (convert 36 9 (.slice (some ⟨g, 0, none⟩) n n)).run Tryd.prog W = .ok (.string S) W) := Lib.hid (fun W g hB => by
    have := blk_str hB n
    rw [List.length_replicate, ← HS.out] at this
    exact this)
  have H1 := Lib.hid (fun W => raw6_any S W hmx)
  have H2 := Lib.hid (fun W => close6_any S W hmx)
  by_cases hpos : 0 < m
  · have hR1 : rawV6 S = .tuple #[.string ⟨#[]⟩, .int .i64 7] := by unfold rawV6; rw [if_pos (by omega)]
    have hR2 : clsV S = .tuple #[.string ⟨#[]⟩, .int .i64 7] := by unfold clsV; rw [if_pos (by omega)]
    rw [hR1] at H1
    rw [hR2] at H2
    have t0 : decide (0 < m) = true := by rw [decide_eq_true_iff]; exact hpos
    clear hR1 hR2 hS hg hn hmx hSs
    go_enter Tryd.func6, Tryd.ntmps6
    go_upto_region 2 with (fail)
    go_upto_region 3 with (first
      | (refine wl_bytes _ _ rfl rfl n rfl rfl (by omega) ?_; intro W1 g B1 l1 k1; have hcv := HCV.out _ _ B1))
    have HB1 := Lib.hid k1
    clear B1 l1 k1 hcv HCV
    go_upto_region 4 with (go_at_call 13; refine (H1.out _).mono ?_; rintro e w2 ⟨rfl, hb2⟩)
    have HB2 := Lib.hid (bq_trans HB1.out hb2)
    clear hb2 H1
    go_upto_region 5 with (go_at_call 14; refine (H2.out _).mono ?_; rintro e w3 ⟨rfl, hb3⟩)
    have HB3 := Lib.hid (bq_trans HB2.out hb3)
    clear hb3 H2
    go_wp2_with (go_at_call 12; refine (HAW.out _).mono ?_; rintro e w5 ⟨rfl, hb5⟩)
    go_ret
    exact ⟨rfl, bq_trans HB3.out hb5⟩
  · have hR1 : rawV6 S = .tuple #[.string (bs (D.pack S)), .int .i64 0] := by unfold rawV6; rw [if_neg (by omega)]
    have hR2 : clsV S = .tuple #[.string (bs (clsL S)), .int .i64 0] := by unfold clsV; rw [if_neg (by omega)]
    rw [hR1] at H1
    rw [hR2] at H2
    have t0 : decide (0 < m) = false := by rw [decide_eq_false_iff_not]; exact hpos
    have hpb := pack_bound S
    obtain ⟨O, hO⟩ : ∃ O, O = bs (D.pack S) := ⟨_, rfl⟩
    obtain ⟨C, hC⟩ : ∃ C, C = bs (clsL S) := ⟨_, rfl⟩
    have hCL : C.data.toList = clsL S := by rw [hC]; rfl
    have hOs : O.size = (D.pack S).length := by rw [hO, bs_size]
    have hCs : C.size = O.size + 6 := by rw [hC, bs_size, hOs]; simp [clsL, D.tl]
    rw [← hO] at H1
    rw [← hC] at H2
    have ho4 := opn_pack (m := 262144) hCL (by omega) (by omega)
    rw [show ((262144 : Nat) : Int) = 262144 by rfl] at ho4
    have H4 := Lib.hid (fun W (h : Gl W) => open_any C 262144 W (by omega) h)
    rw [ho4] at H4
    unfold opV opT at H4
    dsimp only at H4
    rw [str_idq] at H4
    have e6 : (O.size : Int) + 6 = (C.size : Int) := by omega
    have hO9 : O.size ≤ 1000000 := by omega
    clear hR1 hR2 hS hg hn hmx hSs hpb hO hC hCL hOs hCs ho4
    go_enter Tryd.func6, Tryd.ntmps6
    go_upto_region 2 with (fail)
    go_upto_region 3 with (first
      | (refine wl_bytes _ _ rfl rfl n rfl rfl (by omega) ?_; intro W1 g B1 l1 k1; have hcv := HCV.out _ _ B1))
    have HB1 := Lib.hid k1
    clear B1 l1 k1 hcv HCV
    go_upto_region 4 with (go_at_call 13; refine (H1.out _).mono ?_; rintro e w2 ⟨rfl, hb2⟩)
    have HB2 := Lib.hid (bq_trans HB1.out hb2)
    clear hb2 H1
    go_upto_region 5 with (go_at_call 14; refine (H2.out _).mono ?_; rintro e w3 ⟨rfl, hb3⟩)
    have HB3 := Lib.hid (bq_trans HB2.out hb3)
    have HG3 := Lib.hid (HG.out.keep HB3.out HG.out.four)
    clear hb3 H2
    go_upto_region 8 with (go_at_call 10; refine (H4.out _ HG3.out).mono ?_; rintro e w4 ⟨rfl, hb4⟩)
    have HB4 := Lib.hid (bq_trans HB3.out hb4)
    clear hb4 H4
    go_wp2_with (go_at_call 12; refine (HAW.out _).mono ?_; rintro e w5 ⟨rfl, hb5⟩)
    go_ret
    exact ⟨rfl, bq_trans HB4.out hb5⟩
end Go.Proofs.YtddiccdfeckgaaaDoor
