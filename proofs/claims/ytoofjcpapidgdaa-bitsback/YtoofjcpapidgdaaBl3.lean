import Derived.Test.YtoofjcpapidgdaaBih
import Derived.Test.YtoofjcpapidgdaaBi7
/- Layer 2: BitsTakes. -/
namespace Go.Proofs.Ytoofjcpapidgdaa
open Go.RowKit
set_option linter.unusedVariables false

theorem rref_in (W : World) (s : ByteArray) (a : Int) (w : World) (h : Below W.heap.size W w) : Calls Try.prog 13 #[.agg #[.string s, .int .i64 a]] w fun e w' => e = .returned (.agg #[.string s, .int .i64 a]) ∧ Below W.heap.size W w' :=
  (rref_any s a w).mono fun _ _ ⟨he, hb⟩ => ⟨he, bq_trans h hb⟩
theorem awake_in (W : World) (w : World) (h : Below W.heap.size W w) : Calls Try.prog 9 #[] w fun e w' => e = .returned (.bool true) ∧ Below W.heap.size W w' :=
  (awake_any w).mono fun _ _ ⟨he, hb⟩ => ⟨he, bq_trans h hb⟩
attribute [local go_sem ↓] Go.wp_at_zero Go.wp_at_succ
set_option maxHeartbeats 4000000 in
theorem takes_core (s t u u2 : ByteArray) (a n A E V A2 E2 : Int) (w : World) (hs : s.size ≤ 1024)
    (P1 : Hid (∀ w, Calls Try.prog 17 #[.agg #[.string s, .int .i64 a], .int .i64 n] w fun e w' => e = .returned (.tuple #[.string t, .agg #[.string u, .int .i64 A], .int .i64 E]) ∧ Below w.heap.size w w'))
    (P2 : Hid (∀ w, Calls Try.prog 18 #[.agg #[.string s, .int .i64 a], .int .i64 n] w fun e w' => e = .returned (.tuple #[.int .i64 V, .agg #[.string u2, .int .i64 A2], .int .i64 E2]) ∧ Below w.heap.size w w'))
    (P3 : Hid (∀ w, Calls Try.prog 19 #[.agg #[.string s, .int .i64 a], .int .i64 n] w fun e w' => e = .returned (.tuple #[.string t, .agg #[.string u, .int .i64 A], .int .i64 E]) ∧ Below w.heap.size w w'))
    (P4 : Hid (∀ w, Calls Try.prog 20 #[.agg #[.string s, .int .i64 a], .int .i64 n] w fun e w' => e = .returned (.tuple #[.int .i64 V, .agg #[.string u2, .int .i64 A2], .int .i64 E2]) ∧ Below w.heap.size w w')) :
    Calls Try.prog 4 #[.agg #[.string s, .int .i64 a], .int .i64 n] w fun e w' => e = .returned (.bool true) ∧ Below w.heap.size w w' := by
  have p1 : decide (1024 < (s.size : Int)) = false := by simp; omega
  go_enter Try.func4, Try.ntmps4
  go_wp2_with fail
  refine (P1.out _).mono ?_
  rintro e w1 ⟨rfl, hb⟩
  obtain ⟨R1, HB1⟩ := box1_kept hb
  obtain ⟨c0, c1, f0, f1, cz⟩ := R1
  have HH := Lib.hid HB1
  clear hb HB1
  go_wp2_with fail
  have Bx := Lib.hid (box_new w1 (.string u) (.int .i64 A) 23)
  have RN := Box.alloc ⟨c0, c1, f0, f1, cz⟩ (.cells #[.string u, .int .i64 A] 23)
  have HHn := Lib.hid (bq_alloc HH.out (.cells #[.string u, .int .i64 A] 23))
  have ltx : w1.heap.size < (w1.alloc (.cells #[.string u, .int .i64 A] 23)).heap.size := by simp
  clear HH c0 c1 f0 f1 cz
  generalize w1.alloc (.cells #[.string u, .int .i64 A] 23) = W1 at Bx RN HHn ltx ⊢
  obtain ⟨c0, c1, f0, f1, cz⟩ := RN
  have HH := HHn
  clear HHn
  refine (P2.out _).mono ?_
  rintro e w2 ⟨rfl, hb⟩
  have RN := Box.keep ⟨c0, c1, f0, f1, cz⟩ hb
  have Bxn := Lib.hid (Bx.out.keep hb)
  have HHn := Lib.hid (bq_trans HH.out hb)
  clear HH hb c0 c1 f0 f1 cz Bx
  obtain ⟨c0, c1, f0, f1, cz⟩ := RN
  have HH := HHn
  have Bx := Bxn
  clear HHn Bxn
  go_wp2_with fail
  have By := Lib.hid (box_new w2 (.string u2) (.int .i64 A2) 23)
  have Bxn := Lib.hid (Bx.out.alloc (.cells #[.string u2, .int .i64 A2] 23))
  have RN := Box.alloc ⟨c0, c1, f0, f1, cz⟩ (.cells #[.string u2, .int .i64 A2] 23)
  have HHn := Lib.hid (bq_alloc HH.out (.cells #[.string u2, .int .i64 A2] 23))
  have lty : w2.heap.size < (w2.alloc (.cells #[.string u2, .int .i64 A2] 23)).heap.size := by simp
  clear HH c0 c1 f0 f1 cz Bx
  generalize w2.alloc (.cells #[.string u2, .int .i64 A2] 23) = W2 at By Bxn RN HHn lty ⊢
  obtain ⟨c0, c1, f0, f1, cz⟩ := RN
  have HH := HHn
  have Bx := Bxn
  clear HHn Bxn
  refine (rref_any s a _).mono ?_
  rintro e w3 ⟨rfl, hb⟩
  have RN := Box.keep ⟨c0, c1, f0, f1, cz⟩ hb
  have Bxn := Lib.hid (Bx.out.keep hb)
  have Byn := Lib.hid (By.out.keep hb)
  have HHn := Lib.hid (bq_trans HH.out hb)
  clear HH hb c0 c1 f0 f1 cz Bx By
  obtain ⟨c0, c1, f0, f1, cz⟩ := RN
  have HH := HHn
  have Bx := Bxn
  have By := Byn
  clear HHn Bxn Byn
  go_wp2_with fail
  refine (P3.out _).mono ?_
  rintro e w4 ⟨rfl, hb⟩
  have RN := Box.keep ⟨c0, c1, f0, f1, cz⟩ hb
  have Bxn := Lib.hid (Bx.out.keep hb)
  have Byn := Lib.hid (By.out.keep hb)
  have HHn := Lib.hid (bq_trans HH.out hb)
  clear HH hb c0 c1 f0 f1 cz Bx By
  obtain ⟨c0, c1, f0, f1, cz⟩ := RN
  have HH := HHn
  have Bx := Bxn
  have By := Byn
  clear HHn Bxn Byn
  go_wp2_with fail
  have Bp := Lib.hid (box_new w4 (.string u) (.int .i64 A) 28)
  have Bxn := Lib.hid (Bx.out.alloc (.cells #[.string u, .int .i64 A] 28))
  have Byn := Lib.hid (By.out.alloc (.cells #[.string u, .int .i64 A] 28))
  have RN := Box.alloc ⟨c0, c1, f0, f1, cz⟩ (.cells #[.string u, .int .i64 A] 28)
  have HHn := Lib.hid (bq_alloc HH.out (.cells #[.string u, .int .i64 A] 28))
  have ltp : w4.heap.size < (w4.alloc (.cells #[.string u, .int .i64 A] 28)).heap.size := by simp
  clear HH c0 c1 f0 f1 cz Bx By
  generalize w4.alloc (.cells #[.string u, .int .i64 A] 28) = W4 at Bp Bxn Byn RN HHn ltp ⊢
  obtain ⟨c0, c1, f0, f1, cz⟩ := RN
  have HH := HHn
  have Bx := Bxn
  have By := Byn
  clear HHn Bxn Byn
  refine (rref_any s a _).mono ?_
  rintro e w5 ⟨rfl, hb⟩
  have RN := Box.keep ⟨c0, c1, f0, f1, cz⟩ hb
  have Bxn := Lib.hid (Bx.out.keep hb)
  have Byn := Lib.hid (By.out.keep hb)
  have Bpn := Lib.hid (Bp.out.keep hb)
  have HHn := Lib.hid (bq_trans HH.out hb)
  clear HH hb c0 c1 f0 f1 cz Bx By Bp
  obtain ⟨c0, c1, f0, f1, cz⟩ := RN
  have HH := HHn
  have Bx := Bxn
  have By := Byn
  have Bp := Bpn
  clear HHn Bxn Byn Bpn
  go_wp2_with fail
  refine (P4.out _).mono ?_
  rintro e w6 ⟨rfl, hb⟩
  have RN := Box.keep ⟨c0, c1, f0, f1, cz⟩ hb
  have Bxn := Lib.hid (Bx.out.keep hb)
  have Byn := Lib.hid (By.out.keep hb)
  have Bpn := Lib.hid (Bp.out.keep hb)
  have HHn := Lib.hid (bq_trans HH.out hb)
  clear HH hb c0 c1 f0 f1 cz Bx By Bp
  obtain ⟨c0, c1, f0, f1, cz⟩ := RN
  have HH := HHn
  have Bx := Bxn
  have By := Byn
  have Bp := Bpn
  clear HHn Bxn Byn Bpn
  go_wp2_with fail
  have Bq := Lib.hid (box_new w6 (.string u2) (.int .i64 A2) 28)
  have Bxn := Lib.hid (Bx.out.alloc (.cells #[.string u2, .int .i64 A2] 28))
  have Byn := Lib.hid (By.out.alloc (.cells #[.string u2, .int .i64 A2] 28))
  have Bpn := Lib.hid (Bp.out.alloc (.cells #[.string u2, .int .i64 A2] 28))
  have RN := Box.alloc ⟨c0, c1, f0, f1, cz⟩ (.cells #[.string u2, .int .i64 A2] 28)
  have HHn := Lib.hid (bq_alloc HH.out (.cells #[.string u2, .int .i64 A2] 28))
  have ltq : w6.heap.size < (w6.alloc (.cells #[.string u2, .int .i64 A2] 28)).heap.size := by simp
  clear HH c0 c1 f0 f1 cz Bx By Bp
  generalize w6.alloc (.cells #[.string u2, .int .i64 A2] 28) = W6 at Bq Bxn Byn Bpn RN HHn ltq ⊢
  obtain ⟨c0, c1, f0, f1, cz⟩ := RN
  have HH := HHn
  have Bx := Bxn
  have By := Byn
  have Bp := Bpn
  clear HHn Bxn Byn Bpn
  have HS : Hid (∀ w', Below W6.heap.size W6 w' → w'.cell? ⟨w1.heap.size, 0, none⟩ = some (.string u) ∧ w'.cell? ⟨w1.heap.size, 1, none⟩ = some (.int .i64 A) ∧ w'.cell? ⟨w4.heap.size, 0, none⟩ = some (.string u) ∧ w'.cell? ⟨w4.heap.size, 1, none⟩ = some (.int .i64 A) ∧ w'.cell? ⟨w2.heap.size, 0, none⟩ = some (.string u2) ∧ w'.cell? ⟨w2.heap.size, 1, none⟩ = some (.int .i64 A2) ∧ w'.cell? ⟨w6.heap.size, 0, none⟩ = some (.string u2) ∧ w'.cell? ⟨w6.heap.size, 1, none⟩ = some (.int .i64 A2)) := Lib.hid (fun w' h => by
    have x := Bx.out.keep h
    have y := By.out.keep h
    have p := Bp.out.keep h
    have q := Bq.out.keep h
    exact ⟨x.1, x.2.1, p.1, p.2.1, y.1, y.2.1, q.1, q.2.1⟩)
  have hd0 : Below W6.heap.size W6 W6.drew := bq_drew (bq_refl _)
  clear c0 c1 f0 f1 cz Bx By Bp Bq
  go_region_held3 (fun w' => w'.cell? ⟨w1.heap.size, 0, none⟩ = some (.string u) ∧ w'.cell? ⟨w1.heap.size, 1, none⟩ = some (.int .i64 A) ∧ w'.cell? ⟨w4.heap.size, 0, none⟩ = some (.string u) ∧ w'.cell? ⟨w4.heap.size, 1, none⟩ = some (.int .i64 A) ∧ w'.cell? ⟨w2.heap.size, 0, none⟩ = some (.string u2) ∧ w'.cell? ⟨w2.heap.size, 1, none⟩ = some (.int .i64 A2) ∧ w'.cell? ⟨w6.heap.size, 0, none⟩ = some (.string u2) ∧ w'.cell? ⟨w6.heap.size, 1, none⟩ = some (.int .i64 A2)) (first | exact HS.out _ (by assumption))
    (first | (go_at_call 13; refine (rref_in W6 _ _ _ (by assumption)).mono ?_; rintro e w9 ⟨rfl, hb9⟩) | (go_at_call 9; refine (awake_in W6 _ (by assumption)).mono ?_; rintro e w9 ⟨rfl, hb9⟩))
  go_wp2
  go_ret
  exact ⟨rfl, bq_trans HH.out (by assumption)⟩
theorem takes_out (s : ByteArray) (a n : Int) (w : World) (hs : s.size ≤ 9223372036854775807) (h1 : 1024 < s.size) :
    Calls Try.prog 4 #[.agg #[.string s, .int .i64 a], .int .i64 n] w fun e w' => e = .returned (.bool true) ∧ Below w.heap.size w w' := by
  go_enter Try.func4, Try.ntmps4
  go_wp2_with (go_at_call 9; refine (awake_any _).mono ?_; rintro e w3 ⟨rfl, hb3⟩)
  go_ret
  exact ⟨rfl, bq_trans (bq_alloc (bq_refl w) _) (by assumption)⟩
theorem liR_form (s : ByteArray) (a n : Int) : ∃ V u A E, liR s a n = .tuple #[.int .i64 V, .agg #[.string u, .int .i64 A], .int .i64 E] := by
  unfold liR errR
  split
  · exact ⟨_, _, _, _, rfl⟩
  · exact ⟨_, _, _, _, rfl⟩
theorem bitsTakes_walk (s : ByteArray) (a n : Int) (w : World) (hs : s.size ≤ maxLen) :
    Calls Try.prog 4 #[.agg #[.string s, .int .i64 a], .int .i64 n] w fun e w' => e = .returned (.bool true) ∧ Below w.heap.size w w' := by
  by_cases h : 1024 < s.size
  · exact takes_out s a n w hs h
  · have hs2 : s.size ≤ 1099511627776 := by omega
    obtain ⟨V, u, A, E, hl⟩ := liR_form s a n
    have P2 := fun w => little_any s a n w hs2
    have P4 := fun w => reflittle_any s a n w hs2
    rw [hl] at P2 P4
    exact takes_core s _ _ _ a n _ _ _ _ _ w (by omega) (Lib.hid fun w => bytes_any s a n w hs2) (Lib.hid P2) (Lib.hid fun w => refbytes_any s a n w hs2) (Lib.hid P4)
end Go.Proofs.Ytoofjcpapidgdaa
