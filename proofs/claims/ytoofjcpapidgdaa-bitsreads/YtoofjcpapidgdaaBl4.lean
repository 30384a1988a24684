import Derived.Test.YtoofjcpapidgdaaBl3
/- Layer 2: BitsReads. -/
namespace Go.Proofs.Ytoofjcpapidgdaa
open Go.RowKit
set_option linter.unusedVariables false

theorem align_in (W : World) (s : ByteArray) (a : Int) (hs : s.size ≤ 1099511627776) (w : World) (h : Below W.heap.size W w) : Calls Try.prog 15 #[.agg #[.string s, .int .i64 a]] w fun e w' => e = .returned (.agg #[.string s, .int .i64 (alA s.size a)]) ∧ Below W.heap.size W w' :=
  (align_any s a w hs).mono fun _ _ ⟨he, hb⟩ => ⟨he, bq_trans h hb⟩
theorem refalign_in (W : World) (s : ByteArray) (a : Int) (hs : s.size ≤ 1099511627776) (w : World) (h : Below W.heap.size W w) : Calls Try.prog 16 #[.agg #[.string s, .int .i64 a]] w fun e w' => e = .returned (.agg #[.string s, .int .i64 (alA s.size a)]) ∧ Below W.heap.size W w' :=
  (refalign_any s a w hs).mono fun _ _ ⟨he, hb⟩ => ⟨he, bq_trans h hb⟩
attribute [local go_sem ↓] Go.wp_at_zero Go.wp_at_succ
set_option maxHeartbeats 8000000 in
theorem reads_core (s u u2 : ByteArray) (a n V A E V2 A2 E2 : Int) (w : World) (hs : s.size ≤ 1024)
    (P1 : Hid (∀ w, Calls Try.prog 10 #[.agg #[.string s, .int .i64 a], .int .i64 n] w fun e w' => e = .returned (.tuple #[.int .i64 V, .agg #[.string u, .int .i64 A], .int .i64 E]) ∧ Below w.heap.size w w'))
    (P2 : Hid (∀ w, Calls Try.prog 11 #[.agg #[.string s, .int .i64 a], .int .i64 n] w fun e w' => e = .returned (.tuple #[.int .i64 V2, .agg #[.string u2, .int .i64 A2], .int .i64 E2]) ∧ Below w.heap.size w w'))
    (P3 : Hid (∀ w, Calls Try.prog 12 #[.agg #[.string s, .int .i64 a], .int .i64 n] w fun e w' => e = .returned (.tuple #[.int .i64 V, .agg #[.string u, .int .i64 A], .int .i64 E]) ∧ Below w.heap.size w w'))
    (P4 : Hid (∀ w, Calls Try.prog 14 #[.agg #[.string s, .int .i64 a], .int .i64 n] w fun e w' => e = .returned (.tuple #[.int .i64 V2, .agg #[.string u2, .int .i64 A2], .int .i64 E2]) ∧ Below w.heap.size w w')) :
    Calls Try.prog 3 #[.agg #[.string s, .int .i64 a], .int .i64 n] w fun e w' => e = .returned (.bool true) ∧ Below w.heap.size w w' := by
  have p1 : decide (1024 < (s.size : Int)) = false := by simp; omega
  go_enter Try.func3, Try.ntmps3
  go_wp2_with fail
  refine (P1.out _).mono ?_
  rintro e w1 ⟨rfl, hb⟩
  obtain ⟨R1, HB1⟩ := box1_kept hb
  obtain ⟨c0, c1, f0, f1, cz⟩ := R1
  have HH := Lib.hid HB1
  clear hb HB1
  go_wp2_with fail
  have Bx := Lib.hid (box_new w1 (.string u) (.int .i64 A) 23)
  have RN := Box.alloc ⟨c0, c1, f0, f1, cz⟩ (.cells #[.string u, .int .i64 A] 23)
  have HHn := Lib.hid (bq_alloc HH.out (.cells #[.string u, .int .i64 A] 23))
  have ltx : w1.heap.size < (w1.alloc (.cells #[.string u, .int .i64 A] 23)).heap.size := by simp
  clear HH c0 c1 f0 f1 cz
  generalize w1.alloc (.cells #[.string u, .int .i64 A] 23) = W1 at Bx RN HHn ltx ⊢
  obtain ⟨c0, c1, f0, f1, cz⟩ := RN
  have HH := HHn
  clear HHn
  refine (P2.out _).mono ?_
  rintro e w2 ⟨rfl, hb⟩
  have RN := Box.keep ⟨c0, c1, f0, f1, cz⟩ hb
  have Bxn := Lib.hid (Bx.out.keep hb)
  have HHn := Lib.hid (bq_trans HH.out hb)
  clear HH hb c0 c1 f0 f1 cz Bx
  obtain ⟨c0, c1, f0, f1, cz⟩ := RN
  have HH := HHn
  have Bx := Bxn
  clear HHn Bxn
  go_wp2_with fail
  have By := Lib.hid (box_new w2 (.string u2) (.int .i64 A2) 23)
  have Bxn := Lib.hid (Bx.out.alloc (.cells #[.string u2, .int .i64 A2] 23))
  have RN := Box.alloc ⟨c0, c1, f0, f1, cz⟩ (.cells #[.string u2, .int .i64 A2] 23)
  have HHn := Lib.hid (bq_alloc HH.out (.cells #[.string u2, .int .i64 A2] 23))
  have lty : w2.heap.size < (w2.alloc (.cells #[.string u2, .int .i64 A2] 23)).heap.size := by simp
  clear HH c0 c1 f0 f1 cz Bx
  generalize w2.alloc (.cells #[.string u2, .int .i64 A2] 23) = W2 at By Bxn RN HHn lty ⊢
  obtain ⟨c0, c1, f0, f1, cz⟩ := RN
  have HH := HHn
  have Bx := Bxn
  clear HHn Bxn
  refine (rref_any s a _).mono ?_
  rintro e w3 ⟨rfl, hb⟩
  have RN := Box.keep ⟨c0, c1, f0, f1, cz⟩ hb
  have Bxn := Lib.hid (Bx.out.keep hb)
  have Byn := Lib.hid (By.out.keep hb)
  have HHn := Lib.hid (bq_trans HH.out hb)
  clear HH hb c0 c1 f0 f1 cz Bx By
  obtain ⟨c0, c1, f0, f1, cz⟩ := RN
  have HH := HHn
  have Bx := Bxn
  have By := Byn
  clear HHn Bxn Byn
  go_wp2_with fail
  refine (P3.out _).mono ?_
  rintro e w4 ⟨rfl, hb⟩
  have RN := Box.keep ⟨c0, c1, f0, f1, cz⟩ hb
  have Bxn := Lib.hid (Bx.out.keep hb)
  have Byn := Lib.hid (By.out.keep hb)
  have HHn := Lib.hid (bq_trans HH.out hb)
  clear HH hb c0 c1 f0 f1 cz Bx By
  obtain ⟨c0, c1, f0, f1, cz⟩ := RN
  have HH := HHn
  have Bx := Bxn
  have By := Byn
  clear HHn Bxn Byn
  go_wp2_with fail
  have Bp := Lib.hid (box_new w4 (.string u) (.int .i64 A) 28)
  have Bxn := Lib.hid (Bx.out.alloc (.cells #[.string u, .int .i64 A] 28))
  have Byn := Lib.hid (By.out.alloc (.cells #[.string u, .int .i64 A] 28))
  have RN := Box.alloc ⟨c0, c1, f0, f1, cz⟩ (.cells #[.string u, .int .i64 A] 28)
  have HHn := Lib.hid (bq_alloc HH.out (.cells #[.string u, .int .i64 A] 28))
  have ltp : w4.heap.size < (w4.alloc (.cells #[.string u, .int .i64 A] 28)).heap.size := by simp
  clear HH c0 c1 f0 f1 cz Bx By
  generalize w4.alloc (.cells #[.string u, .int .i64 A] 28) = W4 at Bp Bxn Byn RN HHn ltp ⊢
  obtain ⟨c0, c1, f0, f1, cz⟩ := RN
  have HH := HHn
  have Bx := Bxn
  have By := Byn
  clear HHn Bxn Byn
  refine (rref_any s a _).mono ?_
  rintro e w5 ⟨rfl, hb⟩
  have RN := Box.keep ⟨c0, c1, f0, f1, cz⟩ hb
  have Bxn := Lib.hid (Bx.out.keep hb)
  have Byn := Lib.hid (By.out.keep hb)
  have Bpn := Lib.hid (Bp.out.keep hb)
  have HHn := Lib.hid (bq_trans HH.out hb)
  clear HH hb c0 c1 f0 f1 cz Bx By Bp
  obtain ⟨c0, c1, f0, f1, cz⟩ := RN
  have HH := HHn
  have Bx := Bxn
  have By := Byn
  have Bp := Bpn
  clear HHn Bxn Byn Bpn
  go_wp2_with fail
  refine (P4.out _).mono ?_
  rintro e w6 ⟨rfl, hb⟩
  have RN := Box.keep ⟨c0, c1, f0, f1, cz⟩ hb
  have Bxn := Lib.hid (Bx.out.keep hb)
  have Byn := Lib.hid (By.out.keep hb)
  have Bpn := Lib.hid (Bp.out.keep hb)
  have HHn := Lib.hid (bq_trans HH.out hb)
  clear HH hb c0 c1 f0 f1 cz Bx By Bp
  obtain ⟨c0, c1, f0, f1, cz⟩ := RN
  have HH := HHn
  have Bx := Bxn
  have By := Byn
  have Bp := Bpn
  clear HHn Bxn Byn Bpn
  go_wp2_with fail
  have Bq := Lib.hid (box_new w6 (.string u2) (.int .i64 A2) 28)
  have Bxn := Lib.hid (Bx.out.alloc (.cells #[.string u2, .int .i64 A2] 28))
  have Byn := Lib.hid (By.out.alloc (.cells #[.string u2, .int .i64 A2] 28))
  have Bpn := Lib.hid (Bp.out.alloc (.cells #[.string u2, .int .i64 A2] 28))
  have RN := Box.alloc ⟨c0, c1, f0, f1, cz⟩ (.cells #[.string u2, .int .i64 A2] 28)
  have HHn := Lib.hid (bq_alloc HH.out (.cells #[.string u2, .int .i64 A2] 28))
  have ltq : w6.heap.size < (w6.alloc (.cells #[.string u2, .int .i64 A2] 28)).heap.size := by simp
  clear HH c0 c1 f0 f1 cz Bx By Bp
  generalize w6.alloc (.cells #[.string u2, .int .i64 A2] 28) = W6 at Bq Bxn Byn Bpn RN HHn ltq ⊢
  obtain ⟨c0, c1, f0, f1, cz⟩ := RN
  have HH := HHn
  have Bx := Bxn
  have By := Byn
  have Bp := Bpn
  clear HHn Bxn Byn Bpn
  have Br := Lib.hid (show Box _ _ _ _ from ⟨c0, c1, f0, f1, cz⟩)
  have HS : Hid (∀ w', Below W6.heap.size W6 w' → w'.cell? ⟨w.heap.size, 0, none⟩ = some (.string s) ∧ w'.cell? ⟨w.heap.size, 1, none⟩ = some (.int .i64 a) ∧ w'.cell? ⟨w1.heap.size, 0, none⟩ = some (.string u) ∧ w'.cell? ⟨w1.heap.size, 1, none⟩ = some (.int .i64 A) ∧ w'.cell? ⟨w4.heap.size, 0, none⟩ = some (.string u) ∧ w'.cell? ⟨w4.heap.size, 1, none⟩ = some (.int .i64 A) ∧ w'.cell? ⟨w2.heap.size, 0, none⟩ = some (.string u2) ∧ w'.cell? ⟨w2.heap.size, 1, none⟩ = some (.int .i64 A2) ∧ w'.cell? ⟨w6.heap.size, 0, none⟩ = some (.string u2) ∧ w'.cell? ⟨w6.heap.size, 1, none⟩ = some (.int .i64 A2)) := Lib.hid (fun w' h => by
    have r := Br.out.keep h
    have x := Bx.out.keep h
    have y := By.out.keep h
    have p := Bp.out.keep h
    have q := Bq.out.keep h
    exact ⟨r.1, r.2.1, x.1, x.2.1, p.1, p.2.1, y.1, y.2.1, q.1, q.2.1⟩)
  have hd0 : Below W6.heap.size W6 W6.drew := bq_drew (bq_refl _)
  have AL := Lib.hid (align_in W6 s a (by omega))
  have RAL := Lib.hid (refalign_in W6 s a (by omega))
  generalize alA s.size a = Z at AL RAL
  clear c0 c1 f0 f1 cz Bx By Bp Bq Br P1 P2 P3 P4
  go_region_held3 (fun w' => w'.cell? ⟨w.heap.size, 0, none⟩ = some (.string s) ∧ w'.cell? ⟨w.heap.size, 1, none⟩ = some (.int .i64 a) ∧ w'.cell? ⟨w1.heap.size, 0, none⟩ = some (.string u) ∧ w'.cell? ⟨w1.heap.size, 1, none⟩ = some (.int .i64 A) ∧ w'.cell? ⟨w4.heap.size, 0, none⟩ = some (.string u) ∧ w'.cell? ⟨w4.heap.size, 1, none⟩ = some (.int .i64 A) ∧ w'.cell? ⟨w2.heap.size, 0, none⟩ = some (.string u2) ∧ w'.cell? ⟨w2.heap.size, 1, none⟩ = some (.int .i64 A2) ∧ w'.cell? ⟨w6.heap.size, 0, none⟩ = some (.string u2) ∧ w'.cell? ⟨w6.heap.size, 1, none⟩ = some (.int .i64 A2)) (first | exact HS.out _ (by assumption))
    (first | (go_at_call 13; refine (rref_in W6 _ _ _ (by assumption)).mono ?_; rintro e w9 ⟨rfl, hb9⟩) | (go_at_call 15; refine (AL.out _ (by assumption)).mono ?_; rintro e w9 ⟨rfl, hb9⟩) | (go_at_call 16; refine (RAL.out _ (by assumption)).mono ?_; rintro e w9 ⟨rfl, hb9⟩) | (go_at_call 9; refine (awake_in W6 _ (by assumption)).mono ?_; rintro e w9 ⟨rfl, hb9⟩))
  all_goals
    go_wp2
    go_ret
    exact ⟨rfl, bq_trans HH.out (by assumption)⟩
theorem reads_out (s : ByteArray) (a n : Int) (w : World) (hs : s.size ≤ 9223372036854775807) (h1 : 1024 < s.size) :
    Calls Try.prog 3 #[.agg #[.string s, .int .i64 a], .int .i64 n] w fun e w' => e = .returned (.bool true) ∧ Below w.heap.size w w' := by
  go_enter Try.func3, Try.ntmps3
  go_wp2_with (go_at_call 9; refine (awake_any _).mono ?_; rintro e w3 ⟨rfl, hb3⟩)
  go_ret
  exact ⟨rfl, bq_trans (bq_alloc (bq_refl w) _) (by assumption)⟩
theorem bitsReads_walk (s : ByteArray) (a n : Int) (w : World) (hs : s.size ≤ maxLen) :
    Calls Try.prog 3 #[.agg #[.string s, .int .i64 a], .int .i64 n] w fun e w' => e = .returned (.bool true) ∧ Below w.heap.size w w' := by
  by_cases h : 1024 < s.size
  · exact reads_out s a n w hs h
  · have hs2 : s.size ≤ 1099511627776 := by omega
    exact reads_core s _ _ a n _ _ _ _ _ _ w (by omega) (Lib.hid fun w => plain_any s a n w hs2) (Lib.hid fun w => signed_any s a n w hs2) (Lib.hid fun w => refplain_any s a n w hs2) (Lib.hid fun w => refsigned_any s a n w hs2)
end Go.Proofs.Ytoofjcpapidgdaa
