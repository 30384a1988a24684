import Derived.Test.YtcfidibkihkndaaA3
import Derived.Test.YtcfidibkihkndaaB3
namespace Go.Proofs.Ytcfidibkihkndaa
open Go.RowKit
set_option linter.unusedVariables false

theorem quiet_same {P : Program} {f : FuncId} {args : Array Value} {w : World} {n : Nat} {v : Value} (h : Calls P f args (w.drewN n) fun e w' => e = .returned v ∧ w.drewN n = w') :
    Calls P f args (w.drewN n) fun e w'' => e = .returned v ∧ ∃ m, w'' = w.drewN m := h.mono fun _ _ ⟨he, hm⟩ => ⟨he, n, hm.symm⟩
theorem quiet_drawn {P : Program} {f : FuncId} {args : Array Value} {w : World} {n : Nat} {v : Value} (h : Calls P f args (w.drewN n) fun e w' => e = .returned v ∧ ∃ m, w' = (w.drewN n).drewN m) :
    Calls P f args (w.drewN n) fun e w'' => e = .returned v ∧ ∃ m, w'' = w.drewN m := h.mono fun _ _ ⟨he, m, hm⟩ => ⟨he, n + m, by rw [hm, World.drewN_drewN]⟩
theorem quiet_same2 {P : Program} {f : FuncId} {args : Array Value} {w : World} {a n : Nat} {v : Value} (h : Calls P f args (w.drewN (a + n)) fun e w' => e = .returned v ∧ w.drewN (a + n) = w') :
    Calls P f args (w.drewN (a + n)) fun e w'' => e = .returned v ∧ ∃ m, w'' = w.drewN (a + m) := h.mono fun _ _ ⟨he, hm⟩ => ⟨he, n, hm.symm⟩
theorem quiet_drawn2 {P : Program} {f : FuncId} {args : Array Value} {w : World} {a n : Nat} {v : Value} (h : Calls P f args (w.drewN (a + n)) fun e w' => e = .returned v ∧ ∃ m, w' = (w.drewN (a + n)).drewN m) :
    Calls P f args (w.drewN (a + n)) fun e w'' => e = .returned v ∧ ∃ m, w'' = w.drewN (a + m) := h.mono fun _ _ ⟨he, m, hm⟩ => ⟨he, n + m, by rw [hm, World.drewN_drewN, Nat.add_assoc]⟩

set_option maxHeartbeats 1000000 in
theorem muldiv_core_no (a b c : Int) (w : World) (a0 : -9223372036854775808 ≤ a) (a1 : a ≤ 9223372036854775807) (b0 : -9223372036854775808 ≤ b) (b1 : b ≤ 9223372036854775807)
    (c0 : -9223372036854775808 ≤ c) (c1 : c ≤ 9223372036854775807) (k : decide ((c.natAbs : Int) ≤ phi a b) = true) :
    Calls Try.prog 20 #[.int .i64 a, .int .i64 b, .int .i64 c] w fun e w' => e = .returned (.tuple #[.int .i64 0, .bool false]) ∧ Below w.heap.size w w' := by
  have P := Lib.hid (product_any a b w a0 a1 b0 b1)
  have Z := Lib.hid (fun W => size_any c W c0 c1)
  clear a0 a1 b0 b1 c0 c1
  go_enter Try.func20, Try.ntmps20
  go_wp2_with (first | (go_at_call 25; refine P.out.mono ?_; rintro e w' ⟨rfl, hb⟩))
  go_quiet ((go_at_call 34; exact quiet_same (Z.out _)))
  go_wp2
  go_ret2
  exact ⟨rfl, bq_drewN (bq_alloc hb _) _⟩

set_option maxHeartbeats 4000000 in
theorem muldiv_core (a b c : Int) (w : World) (a0 : -9223372036854775808 ≤ a) (a1 : a ≤ 9223372036854775807) (b0 : -9223372036854775808 ≤ b) (b1 : b ≤ 9223372036854775807)
    (c0 : -9223372036854775808 ≤ c) (c1 : c ≤ 9223372036854775807) (k : decide ((c.natAbs : Int) ≤ phi a b) = false) (q r : Int) (q0 : 0 ≤ q) (q1 : q < 18446744073709551616)
    (DV : Hid (∀ W, Calls Try.prog 35 #[.int .u64 (phi a b), .int .u64 (plo a b), .int .u64 (c.natAbs : Int)] W fun e w' => e = .returned (.tuple #[.int .u64 q, .int .u64 r]) ∧ ∃ n, w' = W.drewN n))
    (s t u v : Bool) (k1 : pneg a b = s) (k2 : decide (c < 0) = t) (k3 : (r != 0) = u) (k4 : (q == 18446744073709551615) = v) (x : Int) (ok : Bool)
    (HN : Hid (((s != t) && u && v) = true → x = 0 ∧ ok = false))
    (SG : Hid (∀ W, ((s != t) && u && v) = false → Calls Try.prog 26 #[.bool (s != t), .int .u64 (if (s != t) && u then q + 1 else q)] W fun e w' => e = .returned (.tuple #[.int .i64 x, .bool ok]) ∧ W = w')) :
    Calls Try.prog 20 #[.int .i64 a, .int .i64 b, .int .i64 c] w fun e w' => e = .returned (.tuple #[.int .i64 x, .bool ok]) ∧ Below w.heap.size w w' := by
  have P := Lib.hid (product_any a b w a0 a1 b0 b1)
  have Z := Lib.hid (fun W => size_any c W c0 c1)
  have hq : v = false → q < 18446744073709551615 := by intro h; subst h; simp at k4; omega
  have HQ := Lib.hid hq
  clear a0 a1 b0 b1 c0 c1 q1 hq
  by_cases ha : ((s != t) && u && v) = true
  · obtain ⟨rfl, rfl⟩ := HN.out ha
    clear HN SG HQ
    cases s <;> cases t <;> cases u <;> cases v <;> simp at ha <;> clear ha
    all_goals
      go_enter Try.func20, Try.ntmps20
      go_wp2_with (first | (go_at_call 25; refine P.out.mono ?_; rintro e w' ⟨rfl, hb⟩))
      go_quiet ((go_at_call 34; exact quiet_same (Z.out _)))
      go_wp2
      go_quiet ((first | (go_at_call 34; exact quiet_same2 (Z.out _)) | (go_at_call 35; exact quiet_drawn2 (DV.out _))))
      go_wp2
      go_ret2
      exact ⟨rfl, bq_drewN (bq_alloc hb _) _⟩
  · have SH := Lib.hid (fun W => SG.out W (by simpa using ha))
    have hn : ((s != t) && u && v) = false := by simpa using ha
    clear HN SG ha
    cases s <;> cases t <;> cases u <;> cases v <;> simp at hn <;> clear hn
    all_goals
      have SI := SH.out
      simp only [bne_self_eq_false, Bool.true_bne, Bool.false_bne, Bool.not_false, Bool.and_true, Bool.and_false, Bool.and_self, Bool.false_eq_true, if_true, if_false] at SI
      have HH := HQ.out
      simp only [forall_const, Bool.true_eq_false, false_implies] at HH
      have SJ := Lib.hid SI
      clear SI SH HQ
      go_enter Try.func20, Try.ntmps20
      go_wp2_with (first | (go_at_call 25; refine P.out.mono ?_; rintro e w' ⟨rfl, hb⟩))
      go_quiet ((go_at_call 34; exact quiet_same (Z.out _)))
      go_wp2
      go_quiet ((first | (go_at_call 34; exact quiet_same2 (Z.out _)) | (go_at_call 35; exact quiet_drawn2 (DV.out _))))
      go_wp2_with (first | (go_at_call 26; refine (SJ.out _).mono ?_; rintro e w' ⟨rfl, rfl⟩))
      go_ret2
      exact ⟨rfl, bq_drewN (bq_alloc hb _) _⟩

end Go.Proofs.Ytcfidibkihkndaa
