import Derived.Test.YtoofjcpapidgdaaBih
/- Layer 2: BitsSplit. -/
namespace Go.Proofs.Ytoofjcpapidgdaa
open Go.RowKit
set_option linter.unusedVariables false

set_option maxHeartbeats 1000000 in
theorem split_out (s : ByteArray) (a n m : Int) (w : World) (n0 : -9223372036854775808 ≤ n) (n1 : n ≤ 9223372036854775807) (m0 : -9223372036854775808 ≤ m) (m1 : m ≤ 9223372036854775807) (hs : s.size ≤ 9223372036854775807)
    (h : Hid (1024 < s.size ∨ n < 0 ∨ m < 0 ∨ 31 < n + m)) :
    Calls Try.prog 8 #[.agg #[.string s, .int .i64 a], .int .i64 n, .int .i64 m] w fun e w' => e = .returned (.bool true) ∧ Below w.heap.size w w' := by
  by_cases h1 : 1024 < s.size
  · clear h
    go_enter Try.func8, Try.ntmps8
    go_wp2_with (go_at_call 9; refine (awake_any _).mono ?_; rintro e w3 ⟨rfl, hb3⟩)
    go_ret
    exact ⟨rfl, bq_trans (bq_alloc (bq_refl w) _) (by assumption)⟩
  by_cases h2 : n < 0
  · clear h
    go_enter Try.func8, Try.ntmps8
    go_wp2_with (go_at_call 9; refine (awake_any _).mono ?_; rintro e w3 ⟨rfl, hb3⟩)
    go_ret
    exact ⟨rfl, bq_trans (bq_alloc (bq_refl w) _) (by assumption)⟩
  by_cases h3 : m < 0
  · clear h
    go_enter Try.func8, Try.ntmps8
    go_wp2_with (go_at_call 9; refine (awake_any _).mono ?_; rintro e w3 ⟨rfl, hb3⟩)
    go_ret
    exact ⟨rfl, bq_trans (bq_alloc (bq_refl w) _) (by assumption)⟩
  have h4 := h.out
  by_cases h5 : n ≤ 31
  · by_cases h6 : m ≤ 31
    · have h7 : 31 < n + m := by omega
      clear h h4
      go_enter Try.func8, Try.ntmps8
      go_wp2_with (go_at_call 9; refine (awake_any _).mono ?_; rintro e w3 ⟨rfl, hb3⟩)
      go_ret
      exact ⟨rfl, bq_trans (bq_alloc (bq_refl w) _) (by assumption)⟩
    · clear h h4
      go_enter Try.func8, Try.ntmps8
      go_wp2_with (go_at_call 9; refine (awake_any _).mono ?_; rintro e w3 ⟨rfl, hb3⟩)
      all_goals (go_ret; exact ⟨rfl, bq_trans (bq_alloc (bq_refl w) _) (by assumption)⟩)
  · clear h h4
    go_enter Try.func8, Try.ntmps8
    go_wp2_with (go_at_call 9; refine (awake_any _).mono ?_; rintro e w3 ⟨rfl, hb3⟩)
    all_goals (go_ret; exact ⟨rfl, bq_trans (bq_alloc (bq_refl w) _) (by assumption)⟩)

set_option maxHeartbeats 1000000 in
theorem split_core (s S1 S2 S3 : ByteArray) (a n m A1 A2 A3 V1 V2 V3 E1 E2 E3 : Int) (w : World) (n0 : 0 ≤ n) (m0 : 0 ≤ m) (nm : n + m ≤ 31) (hs : s.size ≤ 1024)
    (P1 : Hid (∀ w, Calls Try.prog 10 #[.agg #[.string s, .int .i64 a], .int .i64 (n + m)] w fun e w' => e = .returned (.tuple #[.int .i64 V1, .agg #[.string S1, .int .i64 A1], .int .i64 E1]) ∧ Below w.heap.size w w'))
    (P2 : Hid (∀ w, Calls Try.prog 10 #[.agg #[.string s, .int .i64 a], .int .i64 n] w fun e w' => e = .returned (.tuple #[.int .i64 V2, .agg #[.string S2, .int .i64 A2], .int .i64 E2]) ∧ Below w.heap.size w w'))
    (P3 : Hid (∀ w, Calls Try.prog 10 #[.agg #[.string S2, .int .i64 A2], .int .i64 m] w fun e w' => e = .returned (.tuple #[.int .i64 V3, .agg #[.string S3, .int .i64 A3], .int .i64 E3]) ∧ Below w.heap.size w w'))
    (b1 : (E1 != 0) = true) (b2 : (E2 != 0) = true ∨ (E2 != 0) = false ∧ (E3 != 0) = true) :
    Calls Try.prog 8 #[.agg #[.string s, .int .i64 a], .int .i64 n, .int .i64 m] w fun e w' => e = .returned (.bool true) ∧ Below w.heap.size w w' := by
  rcases b2 with b2 | ⟨b2, b3⟩
  all_goals
    go_enter Try.func8, Try.ntmps8
    go_wp2_with fail
    refine (P1.out _).mono ?_
    rintro e w1 ⟨rfl, hb1⟩
    obtain ⟨⟨c0, c1, f0, f1, cz⟩, H1⟩ := box1_kept hb1
    clear hb1
    have HH1 := Lib.hid H1
    clear H1
    go_wp2_with fail
    refine (P2.out _).mono ?_
    rintro e w2 ⟨rfl, hb2⟩
    obtain ⟨x0, x1, _, _, xz⟩ := (Box.keep ((Box.alloc ⟨c0, c1, f0, f1, cz⟩ _)) hb2)
    have HH2 := Lib.hid (bq_trans (bq_alloc HH1.out _) hb2)
    clear hb2
    go_wp2_with fail
    refine (P3.out _).mono ?_
    rintro e w3 ⟨rfl, hb3⟩
    have HH3 := Lib.hid (bq_trans (bq_alloc HH2.out _) hb3)
    clear hb3
    go_wp2_with (go_at_call 9; refine (awake_any _).mono ?_; rintro e w4 ⟨rfl, hb4⟩)
    go_ret
    exact ⟨rfl, bq_trans (bq_alloc HH3.out _) (by assumption)⟩

set_option maxHeartbeats 1000000 in
theorem split_good (s : ByteArray) (a n m V1 V2 V3 : Nat) (w : World) (nm : n + m ≤ 31) (hs : s.size ≤ 1024)
    (P1 : Hid (∀ w, Calls Try.prog 10 #[.agg #[.string s, .int .i64 a], .int .i64 ((n : Int) + (m : Int))] w fun e w' => e = .returned (.tuple #[.int .i64 V1, .agg #[.string s, .int .i64 ((a : Int) + (n : Int) + (m : Int))], .int .i64 0]) ∧ Below w.heap.size w w'))
    (P2 : Hid (∀ w, Calls Try.prog 10 #[.agg #[.string s, .int .i64 a], .int .i64 n] w fun e w' => e = .returned (.tuple #[.int .i64 V2, .agg #[.string s, .int .i64 ((a : Int) + (n : Int))], .int .i64 0]) ∧ Below w.heap.size w w'))
    (P3 : Hid (∀ w, Calls Try.prog 10 #[.agg #[.string s, .int .i64 ((a : Int) + (n : Int))], .int .i64 m] w fun e w' => e = .returned (.tuple #[.int .i64 V3, .agg #[.string s, .int .i64 ((a : Int) + (n : Int) + (m : Int))], .int .i64 0]) ∧ Below w.heap.size w w'))
    (hV : ((V1 : Int) == bits .or .i64 (wrap64 ((V2 : Int) * 2 ^ m)) (V3 : Int)) = true) :
    Calls Try.prog 8 #[.agg #[.string s, .int .i64 a], .int .i64 n, .int .i64 m] w fun e w' => e = .returned (.bool true) ∧ Below w.heap.size w w' := by
  go_enter Try.func8, Try.ntmps8
  go_wp2_with fail
  refine (P1.out _).mono ?_
  rintro e w1 ⟨rfl, hb1⟩
  obtain ⟨⟨c0, c1, f0, f1, cz⟩, H1⟩ := box1_kept hb1
  clear hb1
  have HH1 := Lib.hid H1
  clear H1
  go_wp2_with fail
  refine (P2.out _).mono ?_
  rintro e w2 ⟨rfl, hb2⟩
  obtain ⟨y0, y1, _, _, yz⟩ := (Box.keep (box_new w1 _ _ _) hb2)
  have HH2 := Lib.hid (bq_trans (bq_alloc HH1.out _) hb2)
  clear hb2
  go_wp2_with fail
  refine (P3.out _).mono ?_
  rintro e w3 ⟨rfl, hb3⟩
  have lt2 : w1.heap.size < w2.heap.size := by omega
  obtain ⟨z0, z1, _, _, zz⟩ := Box.keep (Box.alloc ⟨y0, y1, by assumption, by assumption, yz⟩ _) hb3
  have HH3 := Lib.hid (bq_trans (bq_alloc HH2.out _) hb3)
  have lt3 : w1.heap.size < w3.heap.size := by omega
  clear hb3
  go_wp2_with (go_at_call 9; refine (awake_any _).mono ?_; rintro e w4 ⟨rfl, hb4⟩)
  go_ret
  exact ⟨rfl, bq_trans (bq_alloc HH3.out _) (by assumption)⟩
theorem or_shift (a b n m : Nat) (hm : m ≤ 31) (ha : a < B.P2 n) (hb : b < B.P2 m) (hn : n + m ≤ 31) : bits .or .i64 (wrap64 ((a : Int) * 2 ^ m)) (b : Int) = ((a * B.P2 m + b : Nat) : Int) := by
  have h := B.join_lt ha hb
  have h2 : B.P2 (n + m) ≤ 2147483648 := B.P2_le (b := 31) hn
  rw [P2_cast, show (a : Int) * (B.P2 m : Int) = ((a * B.P2 m : Nat) : Int) by push_cast; rfl, i64_id _ (by omega) (by omega)]
  exact or_join a b m hb (by omega)
theorem bitsSplit_walk (s : ByteArray) (a n m : Int) (w : World) (hs : s.size ≤ maxLen) (n0 : -9223372036854775808 ≤ n) (n1 : n ≤ 9223372036854775807) (m0 : -9223372036854775808 ≤ m) (m1 : m ≤ 9223372036854775807) :
    Calls Try.prog 8 #[.agg #[.string s, .int .i64 a], .int .i64 n, .int .i64 m] w fun e w' => e = .returned (.bool true) ∧ Below w.heap.size w w' := by
  by_cases h : 1024 < s.size ∨ n < 0 ∨ m < 0 ∨ 31 < n + m
  · exact split_out s a n m w n0 n1 m0 m1 hs (Lib.hid h)
  · have hs2 : s.size ≤ 1099511627776 := by omega
    have P1 := fun w => plain_any s a (n + m) w hs2
    have P2 := fun w => plain_any s a n w hs2
    have hS : (plS s a n).size ≤ 1099511627776 := by unfold plS; split; · exact hs2
                                                     · exact Nat.zero_le _
    have P3 := fun w => plain_any (plS s a n) (plA s a n) m w hS
    by_cases e1 : plE s.size a (n + m) = 0
    · have hr : 0 ≤ a ∧ a ≤ 8 * s.size ∧ n + m ≤ 8 * s.size - a := by
        unfold plE at e1
        split at e1
        · split at e1
          · cases e1
          · omega
        · cases e1
      obtain ⟨A, rfl⟩ := Int.eq_ofNat_of_zero_le hr.1
      obtain ⟨N, rfl⟩ := Int.eq_ofNat_of_zero_le (show 0 ≤ n by omega)
      obtain ⟨M, rfl⟩ := Int.eq_ofNat_of_zero_le (show 0 ≤ m by omega)
      have Q1 := fun w => plain_ok s A (N + M) w hs2 (by omega) (by omega)
      have Q2 := fun w => plain_ok s A N w hs2 (by omega) (by omega)
      have Q3 := fun w => plain_ok s (A + N) M w hs2 (by omega) (by omega)
      rw [show ((N + M : Nat) : Int) = (N : Int) + (M : Int) by omega, show ((A + (N + M) : Nat) : Int) = (A : Int) + (N : Int) + (M : Int) by omega] at Q1
      rw [show ((A + N : Nat) : Int) = (A : Int) + (N : Int) by omega] at Q2
      rw [show ((A + N + M : Nat) : Int) = (A : Int) + (N : Int) + (M : Int) by omega, show ((A + N : Nat) : Int) = (A : Int) + (N : Int) by omega] at Q3
      refine split_good s A N M _ _ _ w (by omega) (by omega) (Lib.hid Q1) (Lib.hid Q2) (Lib.hid Q3) ?_
      rw [or_shift _ _ N M (by omega) (B.fld_lt _ _ _) (B.fld_lt _ _ _) (by omega), B.fld_split _ _ _ _ (by rw [bytes_length]; omega)]
      simp
    · refine split_core s _ _ _ a n m _ _ _ _ _ _ _ _ _ w (by omega) (by omega) (by omega) (by omega) (Lib.hid P1) (Lib.hid P2) (Lib.hid P3) (by rw [bne_iff_ne]; exact e1) ?_
      by_cases e2 : plE s.size a n = 0
      · right
        refine ⟨by rw [e2]; rfl, ?_⟩
        rw [show plS s a n = s by unfold plS; rw [if_pos e2], show plA s a n = a + n by unfold plA; rw [if_pos e2], bne_iff_ne]
        intro e3
        apply e1
        have hr2 : 0 ≤ a ∧ a ≤ 8 * s.size := by
          unfold plE at e2
          split at e2
          · omega
          · cases e2
        have hr3 : ¬ 8 * (s.size : Int) - (a + n) < m := by
          unfold plE at e3
          split at e3
          · split at e3
            · cases e3
            · assumption
          · cases e3
        unfold plE
        rw [if_pos (by omega), if_neg (by omega)]
      · left
        rw [bne_iff_ne]; exact e2
end Go.Proofs.Ytoofjcpapidgdaa
