import Derived.Test.YtddiccdfeckgaaaDoorQO
import Derived.Test.YtddiccdfeckgaaaDoorQN
/- Layer 6: a law: what is packed is unpacked to what it was. -/
namespace Go.Proofs.YtddiccdfeckgaaaDoor
open Go.RowKit
set_option maxRecDepth 100000
set_option linter.unusedVariables false
set_option linter.unusedSimpArgs false
theorem str_idq (s : ByteArray) : bs s.data.toList = s := by unfold bs; rw [Array.toArray_toList]
theorem byt_q (t : ByteArray) (k : Nat) : I.byt t k = (t.data.toList.getD k 0).toNat := by
  unfold I.byt
  split
  · rename_i h
    rw [List.getD_eq_getElem?_getD, List.getElem?_eq_getElem (by simpa using h)]
    rfl
  · rename_i h
    rw [List.getD_eq_getElem?_getD, List.getElem?_eq_none (by simp; omega)]
    rfl
theorem drop_q (Y : ByteArray) (k : Nat) : (Y.extract k Y.size).data.toList = Y.data.toList.drop k := by
  rw [ByteArray.data_extract]
  simp
  exact List.take_of_length_le (by simp)
theorem sm_q (s : ByteArray) : I.sm s.data.toList = D.sm s := by unfold I.sm D.sm; rw [str_idq]
theorem opn_pack {s Y : ByteArray} {m : Nat} (hY : Y.data.toList = clsL s) (hm : s.size ≤ m) (hm2 : m ≤ 262144) : I.opn Y (m : Int) = .ok s.data.toList := by
  have hs : Y.size = (D.pack s).length + 6 := by
    have e : Y.size = Y.data.toList.length := by simp
    rw [e, hY]; simp [clsL, D.tl]
  have hZ : (Y.extract 2 Y.size).data.toList = D.pack s ++ D.tl (D.sm s) := by rw [drop_q, hY]; rfl
  have hr := D.raw_pack hZ hm hm2
  have hU : ((Y.extract 2 Y.size).extract (D.pack s).length (Y.extract 2 Y.size).size).data.toList = D.tl (D.sm s) := by
    rw [drop_q, hZ, List.drop_append_of_le_length (Nat.le_refl _), List.drop_eq_nil_of_le (Nat.le_refl _), List.nil_append]
  have hS := (D.sm_eq s).2
  unfold I.opn
  rw [if_neg (by omega), if_neg (by omega), if_neg (by rw [byt_q, byt_q, hY]; show ¬ I.hd 120 156 = false; decide), hr]
  simp only []
  generalize (Y.extract 2 Y.size).extract (D.pack s).length (Y.extract 2 Y.size).size = V at *
  have hV : V.size = 4 := by
    have e : V.size = V.data.toList.length := by simp
    rw [e, hU]; rfl
  have hbe : I.be V 4 = D.sm s := by
    simp only [I.be, byt_q, hU]
    show 256 * (256 * (256 * (256 * 0 + (UInt8.ofNat (D.sm s / 16777216)).toNat) + (UInt8.ofNat (D.sm s / 65536 % 256)).toNat) + (UInt8.ofNat (D.sm s / 256 % 256)).toNat) + (UInt8.ofNat (D.sm s % 256)).toNat = _
    rw [u8q _ (by omega), u8q _ (by omega), u8q _ (by omega), u8q _ (by omega)]
    omega
  have hcl : I.cl V (I.sm s.data.toList) = 0 := by
    unfold I.cl
    rw [hV, hbe, sm_q, if_neg (by omega), if_neg (fun h => h rfl), if_neg (by omega)]
  rw [hcl, if_pos rfl]
theorem pack_bound (s : ByteArray) : (D.pack s).length ≤ (9 * s.size + 17) / 8 := by
  have h1 := D.toks_len s s.size 0 (Nat.zero_le _)
  have h2 : (D.sc 256).length = 7 := by decide
  have h4 : (D.allB s).length = 3 + (D.toks s s.size 0).length + (D.sc 256).length := by unfold D.allB; rw [List.length_append, List.length_append]; rfl
  rw [D.pack_size]
  omega
set_option maxHeartbeats 1000000 in
theorem deflateBack_walk (s more : ByteArray) (w : World) (hs : s.size ≤ maxLen) (hmo : more.size ≤ maxLen) (hg : Gl w) :
    Calls Tryd.prog 5 #[.string s, .string more] w fun e w' => e = .returned (.bool true) ∧ Below w.heap.size w w' := by
  have HAW := Lib.hid (fun W => awake6_any W)
  have HG := Lib.hid hg
  have hs9 : s.size ≤ 9223372036854775807 := by unfold maxLen at hs; omega
  have hm9 : more.size ≤ 9223372036854775807 := by unfold maxLen at hmo; omega
  by_cases hl : 8192 < s.size
  · have q : decide (8192 < (s.size : Int)) = true := by rw [decide_eq_true_iff]; omega
    clear hs hmo hg
    go_enter Tryd.func5, Tryd.ntmps5
    go_wp2_with (go_at_call 12; refine (HAW.out _).mono ?_; rintro e w2 ⟨rfl, hb2⟩)
    go_ret
    exact ⟨rfl, hb2⟩
  have q : decide (8192 < (s.size : Int)) = false := by rw [decide_eq_false_iff_not]; omega
  by_cases hl2 : 100 < more.size
  · have q1 : decide (100 < (more.size : Int)) = true := by rw [decide_eq_true_iff]; omega
    clear hs hmo hg
    go_enter Tryd.func5, Tryd.ntmps5
    go_wp2_with (go_at_call 12; refine (HAW.out _).mono ?_; rintro e w2 ⟨rfl, hb2⟩)
    go_ret
    exact ⟨rfl, hb2⟩
  have q1 : decide (100 < (more.size : Int)) = false := by rw [decide_eq_false_iff_not]; omega
  have H1 := Lib.hid (raw6_any s w hs)
  have H2 := Lib.hid (fun W => close6_any s W hs)
  have hR1 : rawV6 s = .tuple #[.string (bs (D.pack s)), .int .i64 0] := by unfold rawV6; rw [if_neg (by omega)]
  have hR2 : clsV s = .tuple #[.string (bs (clsL s)), .int .i64 0] := by unfold clsV; rw [if_neg (by omega)]
  rw [hR1] at H1
  rw [hR2] at H2
  have hpb := pack_bound s
  obtain ⟨O, hO⟩ : ∃ O, O = bs (D.pack s) := ⟨_, rfl⟩
  obtain ⟨C, hC⟩ : ∃ C, C = bs (clsL s) := ⟨_, rfl⟩
  have hOL : O.data.toList = D.pack s := by rw [hO]; rfl
  have hCL : C.data.toList = clsL s := by rw [hC]; rfl
  have hOs : O.size = (D.pack s).length := by rw [hO, bs_size]
  have hCs : C.size = (D.pack s).length + 6 := by rw [hC, bs_size]; simp [clsL, D.tl]
  rw [← hO] at H1
  rw [← hC] at H2
  obtain ⟨X, hX⟩ : ∃ X, X = O ++ more := ⟨_, rfl⟩
  have hXL : X.data.toList = D.pack s ++ more.data.toList := by rw [hX, ByteArray.data_append, Array.toList_append, hOL]
  have hr3 := rawR_ok (D.raw_pack (m := 262144) hXL (by omega) (by omega))
  have ho4 := opn_pack (m := 262144) hCL (by omega) (by omega)
  rw [show ((262144 : Nat) : Int) = 262144 by rfl] at hr3 ho4
  have H3 := Lib.hid (fun W (h : Gl W) => raw_any X 262144 W (by rw [hX, ByteArray.size_append]; omega) h)
  have H4 := Lib.hid (fun W (h : Gl W) => open_any C 262144 W (by omega) h)
  rw [hr3] at H3
  rw [ho4] at H4
  unfold rawT at H3
  unfold opV opT at H4
  dsimp only at H4
  rw [str_idq] at H3 H4
  rw [← hOs] at H3
  have HX := Lib.hid hX
  obtain ⟨n9, hn9⟩ : ∃ x, x = 9 * s.size := ⟨_, rfl⟩
  obtain ⟨n10, hn10⟩ : ∃ x, x = n9 + 10 := ⟨_, rfl⟩
  obtain ⟨n17, hn17⟩ : ∃ x, x = n10 + 7 := ⟨_, rfl⟩
  obtain ⟨nq, hnq⟩ : ∃ x, x = n17 / 8 := ⟨_, rfl⟩
  have e9 : 9 * (s.size : Int) = (n9 : Int) := by omega
  have e10 : (n9 : Int) + 10 = (n10 : Int) := by omega
  have e17 : (n10 : Int) + 7 = (n17 : Int) := by omega
  have eq8 : (n17 : Int) / 8 = (nq : Int) := by omega
  have t9 : decide ((O.size : Int) ≤ (nq : Int)) = true := by rw [decide_eq_true_iff]; omega
  have t9' : decide (O.size ≤ nq) = true := by rw [decide_eq_true_iff]; omega
  have b17 : n17 ≤ 100000 := by omega
  have hO9 : O.size ≤ 100000 := by omega
  clear hs hmo hg hR1 hR2 hpb hO hC hOL hCL hOs hCs hX hXL hr3 ho4 hn9 hn10 hn17 hnq
  go_enter Tryd.func5, Tryd.ntmps5
  go_upto_region 4 with (go_at_call 13; refine H1.out.mono ?_; rintro e w1 ⟨rfl, hb1⟩)
  have HB1 := Lib.hid hb1
  clear hb1 H1
  go_upto_region 5 with (go_at_call 14; refine (H2.out _).mono ?_; rintro e w2 ⟨rfl, hb2⟩)
  have HB2 := Lib.hid (bq_trans HB1.out hb2)
  have HG2 := Lib.hid (HG.out.keep HB2.out HG.out.four)
  clear hb2 H2
  go_upto_region 6 with (go_at_call 8; rw [← HX.out]; refine (H3.out _ HG2.out).mono ?_; rintro e w3 ⟨rfl, hb3⟩)
  have HB3 := Lib.hid (bq_trans HB2.out hb3)
  have HG3 := Lib.hid (HG.out.keep HB3.out HG.out.four)
  clear hb3 H3
  go_upto_region 7 with (go_at_call 10; refine (H4.out _ HG3.out).mono ?_; rintro e w4 ⟨rfl, hb4⟩)
  have HB4 := Lib.hid (bq_trans HB3.out hb4)
  clear hb4 H4
  go_wp2_with (go_at_call 12; refine (HAW.out _).mono ?_; rintro e w5 ⟨rfl, hb5⟩)
  go_ret
  exact ⟨rfl, bq_trans HB4.out hb5⟩
end Go.Proofs.YtddiccdfeckgaaaDoor
