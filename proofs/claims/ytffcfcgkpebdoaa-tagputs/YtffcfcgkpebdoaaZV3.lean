import Derived.Test.YtffcfcgkpebdoaaZV2
namespace Go.Proofs.Ytffcfcgkpebdoaa
open Go.RowKit
set_option linter.unusedVariables false
set_option linter.unusedSimpArgs false
set_option maxRecDepth 100000
theorem tagPuts_a (c : Int) (b m : ByteArray) (w : World) (h : (1024 : Int) < (b.size : Int)) : Calls Try.prog 3 #[.agg #[.int .i64 c, .string b], .string m] w fun e w' => e = .returned (.bool true) ∧ Below w.heap.size w w' := by
  go_enter Try.func3, Try.ntmps3
  go_wp2_with (first
    | (refine wl_box 23 _ _ rfl rfl (show _ = Value.agg #[.int .i64 c, .string b] from rfl) ?_; intro W1 bx Bx_1 l1 k1; have gx : w.heap.size ≤ bx := l1; have Hw1 := k1; clear l1 k1; have cx_0_1 : W1.cell? ⟨bx, 0, none⟩ = some (.int .i64 c) := Bx_1.cell 0; have cx_1_1 : W1.cell? ⟨bx, 1, none⟩ = some (.string b) := Bx_1.cell 1)
    | (go_at_call 7; (with_reducible refine (awake12_any _).mono ?_); rintro e W2 ⟨rfl, k2⟩; have Bx_2 := Bx_1.keep k2; have Hw2 := bq_trans Hw1 k2; clear k2 Bx_1 cx_0_1 cx_1_1 Hw1))
  go_ret
  exact ⟨rfl, Hw2⟩
theorem tagPuts_b (c : Int) (b m : ByteArray) (w : World) (hb : (b.size : Int) ≤ 1024) (h : (1024 : Int) < (m.size : Int)) : Calls Try.prog 3 #[.agg #[.int .i64 c, .string b], .string m] w fun e w' => e = .returned (.bool true) ∧ Below w.heap.size w w' := by
  go_enter Try.func3, Try.ntmps3
  go_wp2_with (first
    | (refine wl_box 23 _ _ rfl rfl (show _ = Value.agg #[.int .i64 c, .string b] from rfl) ?_; intro W1 bx Bx_1 l1 k1; have gx : w.heap.size ≤ bx := l1; have Hw1 := k1; clear l1 k1; have cx_0_1 : W1.cell? ⟨bx, 0, none⟩ = some (.int .i64 c) := Bx_1.cell 0; have cx_1_1 : W1.cell? ⟨bx, 1, none⟩ = some (.string b) := Bx_1.cell 1)
    | (go_at_call 7; (with_reducible refine (awake12_any _).mono ?_); rintro e W2 ⟨rfl, k2⟩; have Bx_2 := Bx_1.keep k2; have Hw2 := bq_trans Hw1 k2; clear k2 Bx_1 cx_0_1 cx_1_1 Hw1))
  go_ret
  exact ⟨rfl, Hw2⟩
theorem tagPuts_c (c : Int) (b m : ByteArray) (w : World) (hb : (b.size : Int) ≤ 1024) (hm : (m.size : Int) ≤ 1024) (h : c < 0) : Calls Try.prog 3 #[.agg #[.int .i64 c, .string b], .string m] w fun e w' => e = .returned (.bool true) ∧ Below w.heap.size w w' := by
  have HP := Lib.hid (fun W => put12_bad c b W (by omega))
  go_enter Try.func3, Try.ntmps3
  go_wp2_with (first
    | (refine wl_box 23 _ _ rfl rfl (show _ = Value.agg #[.int .i64 c, .string b] from rfl) ?_; intro W1 bx Bx_1 l1 k1; have gx : w.heap.size ≤ bx := l1; have Hw1 := k1; clear l1 k1; have cx_0_1 : W1.cell? ⟨bx, 0, none⟩ = some (.int .i64 c) := Bx_1.cell 0; have cx_1_1 : W1.cell? ⟨bx, 1, none⟩ = some (.string b) := Bx_1.cell 1)
    | (refine wl_load 23 2 _ Try.underlying23 rfl szR12 _ rfl rfl _ rfl _ _ Bx_1 rfl ?_)
    | (go_at_call 8; (with_reducible refine (HP.out _).mono ?_); rintro e W2 ⟨rfl, k2⟩; have Bx_2 := Bx_1.keep k2; have Hw2 := bq_trans Hw1 k2; clear k2 Bx_1 cx_0_1 cx_1_1 Hw1; have cx_0_2 : W2.cell? ⟨bx, 0, none⟩ = some (.int .i64 c) := Bx_2.cell 0; have cx_1_2 : W2.cell? ⟨bx, 1, none⟩ = some (.string b) := Bx_2.cell 1)
    | (go_at_call 7; (with_reducible refine (awake12_any _).mono ?_); rintro e W3 ⟨rfl, k3⟩; have Bx_3 := Bx_2.keep k3; have Hw3 := bq_trans Hw2 k3; clear k3 Bx_2 cx_0_2 cx_1_2 Hw2))
  go_ret
  exact ⟨rfl, Hw3⟩
theorem tagPuts_d (c : Int) (b m : ByteArray) (w : World) (hb : (b.size : Int) ≤ 1024) (hm : (m.size : Int) ≤ 1024) (h : 1023 < c) : Calls Try.prog 3 #[.agg #[.int .i64 c, .string b], .string m] w fun e w' => e = .returned (.bool true) ∧ Below w.heap.size w w' := by
  have HP := Lib.hid (fun W => put12_bad c b W (by omega))
  go_enter Try.func3, Try.ntmps3
  go_wp2_with (first
    | (refine wl_box 23 _ _ rfl rfl (show _ = Value.agg #[.int .i64 c, .string b] from rfl) ?_; intro W1 bx Bx_1 l1 k1; have gx : w.heap.size ≤ bx := l1; have Hw1 := k1; clear l1 k1; have cx_0_1 : W1.cell? ⟨bx, 0, none⟩ = some (.int .i64 c) := Bx_1.cell 0; have cx_1_1 : W1.cell? ⟨bx, 1, none⟩ = some (.string b) := Bx_1.cell 1)
    | (refine wl_load 23 2 _ Try.underlying23 rfl szR12 _ rfl rfl _ rfl _ _ Bx_1 rfl ?_)
    | (go_at_call 8; (with_reducible refine (HP.out _).mono ?_); rintro e W2 ⟨rfl, k2⟩; have Bx_2 := Bx_1.keep k2; have Hw2 := bq_trans Hw1 k2; clear k2 Bx_1 cx_0_1 cx_1_1 Hw1; have cx_0_2 : W2.cell? ⟨bx, 0, none⟩ = some (.int .i64 c) := Bx_2.cell 0; have cx_1_2 : W2.cell? ⟨bx, 1, none⟩ = some (.string b) := Bx_2.cell 1)
    | (go_at_call 7; (with_reducible refine (awake12_any _).mono ?_); rintro e W3 ⟨rfl, k3⟩; have Bx_3 := Bx_2.keep k3; have Hw3 := bq_trans Hw2 k3; clear k3 Bx_2 cx_0_2 cx_1_2 Hw2))
  go_ret
  exact ⟨rfl, Hw3⟩
set_option maxHeartbeats 1000000 in
theorem tagPuts_e (c : Nat) (b m : ByteArray) (w : World) (hb : b.size ≤ 1024) (hm : m.size ≤ 1024) (h : c ≤ 1023) : Calls Try.prog 3 #[.agg #[.int .i64 (c : Int), .string b], .string m] w fun e w' => e = .returned (.bool true) ∧ Below w.heap.size w w' := by
  have HP := Lib.hid (fun W => put12_ok c b W h (by omega))
  have HR := Lib.hid (fun W => rput12_any c b W h (by omega))
  have hz : (bs (TG.one c b.data.toList)).size ≤ 2000 := by
    rw [bs_size, TG.one_len, bytes_length]
    split <;> omega
  have ht : TG.take (bs (TG.one c b.data.toList) ++ m).data.toList = some (c, b.data.toList, m.data.toList) := by
    have e : (bs (TG.one c b.data.toList) ++ m).data.toList = TG.one c b.data.toList ++ m.data.toList := by rw [ByteArray.data_append, Array.toList_append]; rfl
    rw [e]
    exact TG.take_one c _ _ h (by rw [bytes_length]; omega)
  have HT : Hid (∀ W, Calls Try.prog 9 #[.string (bs (TG.one c b.data.toList) ++ m)] W fun e w' => e = .returned (.tuple #[.agg #[.int .i64 (c : Int), .string b], .string m, .int .i64 0]) ∧ Below W.heap.size W w') := Lib.hid (fun W => by
    have h2 := take12_any (bs (TG.one c b.data.toList) ++ m) W (by rw [ByteArray.size_append]; omega)
    rw [takeV_some ht, bs_of, bs_of] at h2
    exact h2)
  have q := fun W => qRT12_same (c : Int) b W
  have h0 : (0 : Int) ≤ (c : Int) := by omega
  have h1 : (c : Int) ≤ 1023 := by omega
  have hb2 : (b.size : Int) ≤ 1024 := by omega
  have hm2 : (m.size : Int) ≤ 1024 := by omega
  clear ht h
  generalize bs (TG.one c b.data.toList) = u at *
  go_enter Try.func3, Try.ntmps3
  go_wp2_with (first
    | (refine wl_box 23 _ _ rfl rfl (show _ = Value.agg #[.int .i64 ((c : Int)), .string b] from rfl) ?_; intro W1 bx Bx_1 l1 k1; have gx : w.heap.size ≤ bx := l1; have Hw1 := k1; clear l1 k1; have cx_0_1 : W1.cell? ⟨bx, 0, none⟩ = some (.int .i64 ((c : Int))) := Bx_1.cell 0; have cx_1_1 : W1.cell? ⟨bx, 1, none⟩ = some (.string b) := Bx_1.cell 1)
    | (refine wl_load 23 2 _ Try.underlying23 rfl szR12 _ rfl rfl _ rfl _ _ Bx_1 rfl ?_)
    | (go_at_call 8; (with_reducible refine (HP.out _).mono ?_); rintro e W2 ⟨rfl, k2⟩; have Bx_2 := Bx_1.keep k2; have Hw2 := bq_trans Hw1 k2; clear k2 Bx_1 cx_0_1 cx_1_1 Hw1; have cx_0_2 : W2.cell? ⟨bx, 0, none⟩ = some (.int .i64 ((c : Int))) := Bx_2.cell 0; have cx_1_2 : W2.cell? ⟨bx, 1, none⟩ = some (.string b) := Bx_2.cell 1)
    | (go_at_call 9; (with_reducible refine (HT.out _).mono ?_); rintro e W3 ⟨rfl, k3⟩; have Bx_3 := Bx_2.keep k3; have Hw3 := bq_trans Hw2 k3; clear k3 Bx_2 cx_0_2 cx_1_2 Hw2)
    | (refine wl_alloc 23 _ zeR12 rfl rfl ?_; intro W4 bu Bu_4 l4 k4; have gu : w.heap.size ≤ bu := Nat.le_trans Hw3.size l4; have nxu : bx ≠ bu := Nat.ne_of_lt (Nat.lt_of_lt_of_le Bx_3.lt l4); have Bx_4 := Bx_3.keep k4; have Hw4 := bq_trans Hw3 k4; clear l4 k4 Bx_3 Hw3)
    | (refine wl_store 23 2 szR12 _ _ rfl rfl _ rfl #[.int .i64 (c : Int), .string b] rfl _ _ Bu_4 rfl rfl (by kernel_rfl) ?_; intro W5 Bu_5 T5; have Bx_5 := T5.blk Bx_4 nxu; have Hw5 := T5.below Hw4 gu; clear T5 Bx_4 Bu_4 Hw4)
    | (refine wl_load 23 2 _ Try.underlying23 rfl szR12 _ rfl rfl _ rfl _ _ Bx_5 rfl ?_)
    | (go_at_call 10; (with_reducible refine (HR.out _).mono ?_); rintro e W6 ⟨rfl, k6⟩; have Bx_6 := Bx_5.keep k6; have Bu_6 := Bu_5.keep k6; have Hw6 := bq_trans Hw5 k6; clear k6 Bx_5 Bu_5 Hw5)
    | (refine wlg_load 23 2 _ Try.underlying23 rfl szR12 _ rfl rfl _ rfl _ _ Bu_6 rfl ?_)
    | (refine wlg_load 23 2 _ Try.underlying23 rfl szR12 _ rfl rfl _ rfl _ _ Bx_6 rfl ?_)
    | (go_at_call 7; (with_reducible refine (awake12_any _).mono ?_); rintro e W7 ⟨rfl, k7⟩; have Bx_7 := Bx_6.keep k7; have Bu_7 := Bu_6.keep k7; have Hw7 := bq_trans Hw6 k7; clear k7 Bx_6 Bu_6 Hw6))
  go_ret
  exact ⟨rfl, Hw7⟩
theorem tagPuts_walk (c : Int) (b m : ByteArray) (w : World) : Calls Try.prog 3 #[.agg #[.int .i64 c, .string b], .string m] w fun e w' => e = .returned (.bool true) ∧ Below w.heap.size w w' := by
  by_cases hb : b.size ≤ 1024
  · by_cases hm : m.size ≤ 1024
    · rcases (show c < 0 ∨ 0 ≤ c by omega) with hc | hc
      · exact tagPuts_c c b m w (by omega) (by omega) hc
      · rcases (show 1023 < c ∨ c ≤ 1023 by omega) with hc2 | hc2
        · exact tagPuts_d c b m w (by omega) (by omega) hc2
        · obtain ⟨C, rfl⟩ := Int.eq_ofNat_of_zero_le hc
          exact tagPuts_e C b m w hb hm (by omega)
    · exact tagPuts_b c b m w (by omega) (by omega)
  · exact tagPuts_a c b m w (by omega)
end Go.Proofs.Ytffcfcgkpebdoaa
