import Derived.Test.YtfaipbdkkkhacaaYA
/- Layer 2: the document's next field. -/
namespace Go.Proofs.Ytfaipbdkkkhacaa
open Go.RowKit
set_option linter.unusedVariables false

theorem refright_yes (s : ByteArray) (a : Int) (w : World) (hs : s.size ≤ 1099511627776) (h0 : 0 ≤ a) (h1 : a ≤ 8 * s.size) : Calls Try.prog 72 #[.agg #[.string s, .int .i64 a]] w fun e w' => e = .returned (.bool true) ∧ Below w.heap.size w w' :=
  (refright_any s a w hs).mono fun e w' ⟨he, hw⟩ => ⟨by rw [he]; simp; omega, hw⟩
theorem refright_no (s : ByteArray) (a : Int) (w : World) (hs : s.size ≤ 1099511627776) (h : a < 0 ∨ 8 * s.size < a) : Calls Try.prog 72 #[.agg #[.string s, .int .i64 a]] w fun e w' => e = .returned (.bool false) ∧ Below w.heap.size w w' :=
  (refright_any s a w hs).mono fun e w' ⟨he, hw⟩ => ⟨by rw [he]; simp; omega, hw⟩
theorem refplain_post {Q : Ending → World → Prop} {a : Act} {W : World} {g : Nat} {x y u v : Value} (hbox : Box W g x y) (h4 : a.tmps[4]?.getD undef = u) (h5 : a.tmps[5]?.getD undef = .pointer (some ⟨g, 0, none⟩)) (h6 : a.tmps[6]?.getD undef = v)
    (hd : a.defers = []) (hQ : Q (.returned (.tuple #[u, .agg #[x, y], v])) W) : bodyPost Try.prog Try.f74 Q Exit.ret a W :=
  bodyPost_ret (v := .tuple #[u, .agg #[x, y], v]) (by simp [results, Try.results74, go_sem, h4, h5, h6, hbox.1, hbox.2.1]) hd hQ

theorem refplain_bad1 (s : ByteArray) (a n : Int) (w : World) (hs : s.size ≤ 1099511627776) (h : a < 0 ∨ 8 * s.size < a) :
    Calls Try.prog 74 #[.agg #[.string s, .int .i64 a], .int .i64 n] w fun e w' => e = .returned (errR 1) ∧ Below w.heap.size w w' := by
  have H := Lib.hid h
  clear h
  go_enter Try.func74, Try.ntmps74
  go_wp2_with fail
  refine (refright_no s a _ hs H.out).mono ?_
  rintro e w1 ⟨rfl, hb⟩
  obtain ⟨⟨c0, c1, _, _, _⟩, ⟨d0, d1, g0, g1, hz⟩, H⟩ := box2_kept hb
  have H1 := Lib.hid H
  clear hb H
  go_wp2_with fail
  exact refplain_post (((Box.set0 ⟨d0, d1, g0, g1, hz⟩ _).set1 _)) rfl rfl rfl rfl ⟨rfl, bq_set (bq_set H1.out _ (by simp) _) _ (by simp) _⟩
theorem refplain_bad2 (s : ByteArray) (a n : Int) (w : World) (hs : s.size ≤ 1099511627776) (h0 : 0 ≤ a) (h1 : a ≤ 8 * s.size) (h : n < 0 ∨ 31 < n) :
    Calls Try.prog 74 #[.agg #[.string s, .int .i64 a], .int .i64 n] w fun e w' => e = .returned (errR 1) ∧ Below w.heap.size w w' := by
  rcases h with h | h
  all_goals
    go_enter Try.func74, Try.ntmps74
    go_wp2_with fail
    refine (refright_yes s a _ hs h0 h1).mono ?_
    rintro e w1 ⟨rfl, hb⟩
    obtain ⟨⟨c0, c1, _, _, _⟩, ⟨d0, d1, g0, g1, hz⟩, H⟩ := box2_kept hb
    have H1 := Lib.hid H
    clear hb H
    go_wp2_with fail
    exact refplain_post (((Box.set0 ⟨d0, d1, g0, g1, hz⟩ _).set1 _)) rfl rfl rfl rfl ⟨rfl, bq_set (bq_set H1.out _ (by simp) _) _ (by simp) _⟩
theorem refplain_short (s : ByteArray) (a n : Int) (w : World) (hs : s.size ≤ 1099511627776) (h0 : 0 ≤ a) (h1 : a ≤ 8 * s.size) (h2 : 0 ≤ n) (h3 : n ≤ 31) (h4 : 8 * s.size - a < n) :
    Calls Try.prog 74 #[.agg #[.string s, .int .i64 a], .int .i64 n] w fun e w' => e = .returned (errR 2) ∧ Below w.heap.size w w' := by
  go_enter Try.func74, Try.ntmps74
  go_wp2_with fail
  refine (refright_yes s a _ hs h0 h1).mono ?_
  rintro e w1 ⟨rfl, hb⟩
  obtain ⟨⟨c0, c1, _, _, _⟩, ⟨d0, d1, g0, g1, hz⟩, H⟩ := box2_kept hb
  have H1 := Lib.hid H
  clear hb H
  go_wp2_with fail
  exact refplain_post (((Box.set0 ⟨d0, d1, g0, g1, hz⟩ _).set1 _)) rfl rfl rfl rfl ⟨rfl, bq_set (bq_set H1.out _ (by simp) _) _ (by simp) _⟩

def RPRel (s : ByteArray) (a n : Nat) (v i : Value) : Prop := ∃ k x : Nat, k ≤ n ∧ i = .int .i64 k ∧ v = .int .i64 (x : Int) ∧ x = B.fld s.data.toList a k
attribute [local go_sem ↓] Go.wp_at_zero Go.wp_at_succ
set_option maxHeartbeats 1000000 in
theorem refplain_ok (s : ByteArray) (a n : Nat) (w : World) (hs : s.size ≤ 1099511627776) (h3 : n ≤ 31) (h4 : a + n ≤ 8 * s.size) :
    Calls Try.prog 74 #[.agg #[.string s, .int .i64 a], .int .i64 n] w fun e w' => e = .returned (.tuple #[.int .i64 (B.fld s.data.toList a n : Int), .agg #[.string s, .int .i64 ((a + n : Nat) : Int)], .int .i64 0]) ∧ Below w.heap.size w w' := by
  rw [show ((a + n : Nat) : Int) = (a : Int) + (n : Int) by omega]
  go_enter Try.func74, Try.ntmps74
  go_wp2_with fail
  refine (refright_yes s a _ hs (by omega) (by omega)).mono ?_
  rintro e w1 ⟨rfl, hb⟩
  obtain ⟨⟨c0, c1, _, _, _⟩, ⟨d0, d1, g0, g1, hz⟩, H⟩ := box2_kept hb
  have H1 := Lib.hid H
  clear hb H
  go_wp2_with fail
  go_loop [7, 8] (fun v i => RPRel s a n v i) (fun _ i => n - (intOf i).toNat)
  case atStart => exact ⟨0, 0, by omega, rfl, rfl, (B.fld_zero _ _).symm⟩
  case round =>
    obtain ⟨k, x, hk, rfl, rfl, hx⟩ := hrel
    have hx2 : x < B.P2 31 := by rw [hx]; exact Nat.lt_of_lt_of_le (B.fld_lt _ _ _) (B.P2_le (by omega))
    have hx3 : x < 2147483648 := hx2
    have HX := Lib.hid hx
    clear hx hx2
    by_cases hlt : k < n
    · have hb := fun w => bit_any s (a + k) w hs (by omega)
      rw [show ((a + k : Nat) : Int) = (a : Int) + (k : Int) by omega] at hb
      have hstep := B.fld_split s.data.toList a k 1 (by rw [bytes_length]; omega)
      rw [← HX.out] at hstep
      have hf1 : B.fld s.data.toList (a + k) 1 < 2 := B.fld_lt _ _ _
      generalize B.fld s.data.toList (a + k) 1 = y at hb hstep hf1
      have HS := Lib.hid hstep
      have HB := Lib.hid hb
      clear hb hstep
      go_wp2_with (go_at_call 84; refine (HB.out _).mono ?_; rintro e w' ⟨rfl, rfl⟩)
      go_round
      case rel => exact ⟨k + 1, x * 2 + y, by omega, by go_num, by go_num, by rw [HS.out]; rfl⟩
      case measure => simp [intOf]; omega
    · obtain rfl : k = n := by omega
      go_wp2_with fail
      have wr := i64_wrap ((a : Int) + (k : Int)) (by omega) (by omega)
      go_region_held3 (fun w' => w'.cell? ⟨w.heap.size, 0, none⟩ = some (.string s) ∧ w'.cell? ⟨w.heap.size, 1, none⟩ = some (.int .i64 a)) (go_keep) (fail)
      all_goals go_wp2
      exact refplain_post ((((Box.drewN ⟨d0, d1, g0, g1, hz⟩ _).set0 _).set1 _)) rfl rfl rfl rfl ⟨by rw [← HX.out]; rfl, bq_set (bq_set (bq_drewN H1.out _) _ (by simp) _) _ (by simp) _⟩
theorem refplain_any (s : ByteArray) (a n : Int) (w : World) (hs : s.size ≤ 1099511627776) :
    Calls Try.prog 74 #[.agg #[.string s, .int .i64 a], .int .i64 n] w fun e w' => e = .returned (plR s a n) ∧ Below w.heap.size w w' := by
  by_cases h : 0 ≤ a ∧ a ≤ 8 * s.size ∧ 0 ≤ n ∧ n ≤ 31
  · by_cases h2 : 8 * s.size - a < n
    · rw [plR_short h h2]; exact refplain_short s a n w hs h.1 h.2.1 h.2.2.1 h.2.2.2 h2
    · obtain ⟨A, rfl⟩ := Int.eq_ofNat_of_zero_le h.1
      obtain ⟨N, rfl⟩ := Int.eq_ofNat_of_zero_le h.2.2.1
      rw [plR_ok (by omega) (by omega)]; exact refplain_ok s A N w hs (by omega) (by omega)
  · rw [plR_arg h]
    by_cases h3 : 0 ≤ a ∧ a ≤ 8 * s.size
    · exact refplain_bad2 s a n w hs h3.1 h3.2 (by omega)
    · exact refplain_bad1 s a n w hs (by omega)

end Go.Proofs.Ytfaipbdkkkhacaa
/- Layer 2: a field with a sign; the program's and the document's. -/
namespace Go.Proofs.Ytfaipbdkkkhacaa
open Go.RowKit
set_option linter.unusedVariables false

def sgV (s : ByteArray) (a n : Int) : Int := if 0 < n ∧ B.P2 n.toNat ≤ 2 * (plV s a n).toNat then plV s a n - B.P2 n.toNat else plV s a n
def sgR (s : ByteArray) (a n : Int) : Value := .tuple #[.int .i64 (sgV s a n), .agg #[.string (plS s a n), .int .i64 (plA s a n)], .int .i64 (plE s.size a n)]
theorem signed_post {Q : Ending → World → Prop} {a : Act} {W : World} {g : Nat} {x y u v : Value} (hbox : Box W g x y) (h4 : a.tmps[4]?.getD undef = u) (h5 : a.tmps[5]?.getD undef = .pointer (some ⟨g, 0, none⟩)) (h6 : a.tmps[6]?.getD undef = v)
    (hd : a.defers = []) (hQ : Q (.returned (.tuple #[u, .agg #[x, y], v])) W) : bodyPost Try.prog Try.f81 Q Exit.ret a W :=
  bodyPost_ret (v := .tuple #[u, .agg #[x, y], v]) (by simp [results, Try.results81, go_sem, h4, h5, h6, hbox.1, hbox.2.1]) hd hQ
theorem refsigned_post {Q : Ending → World → Prop} {a : Act} {W : World} {g : Nat} {x y u v : Value} (hbox : Box W g x y) (h4 : a.tmps[4]?.getD undef = u) (h5 : a.tmps[5]?.getD undef = .pointer (some ⟨g, 0, none⟩)) (h6 : a.tmps[6]?.getD undef = v)
    (hd : a.defers = []) (hQ : Q (.returned (.tuple #[u, .agg #[x, y], v])) W) : bodyPost Try.prog Try.f83 Q Exit.ret a W :=
  bodyPost_ret (v := .tuple #[u, .agg #[x, y], v]) (by simp [results, Try.results83, go_sem, h4, h5, h6, hbox.1, hbox.2.1]) hd hQ

/-- what Plain told is an error -/
theorem signed_err (s t : ByteArray) (a n A E : Int) (w : World) (hE : (E == 0) = false)
    (HP : Hid (∀ w, Calls Try.prog 69 #[.agg #[.string s, .int .i64 a], .int .i64 n] w fun e w' => e = .returned (.tuple #[.int .i64 0, .agg #[.string t, .int .i64 A], .int .i64 E]) ∧ Below w.heap.size w w')) :
    Calls Try.prog 81 #[.agg #[.string s, .int .i64 a], .int .i64 n] w fun e w' => e = .returned (.tuple #[.int .i64 0, .agg #[.string t, .int .i64 A], .int .i64 E]) ∧ Below w.heap.size w w' := by
  go_enter Try.func81, Try.ntmps81
  go_wp2_with fail
  refine (HP.out _).mono ?_
  rintro e w1 ⟨rfl, hb⟩
  obtain ⟨⟨c0, c1, _, _, _⟩, ⟨d0, d1, g0, g1, hz⟩, H⟩ := box2_kept hb
  have H1 := Lib.hid H
  clear hb H
  go_wp2_with fail
  have BN := box_new w1 (.string t) (.int .i64 A) 51
  have BR := Box.alloc ⟨d0, d1, g0, g1, hz⟩ (.cells #[.string t, .int .i64 A] 51)
  have HB := Lib.hid (bq_alloc H1.out (.cells #[.string t, .int .i64 A] 51))
  generalize w1.alloc (.cells #[.string t, .int .i64 A] 51) = W at BN BR HB ⊢
  have ne1 : ¬ w.heap.size + 1 = w1.heap.size := by omega
  have ne2 : ¬ w1.heap.size = w.heap.size + 1 := by omega
  obtain ⟨p0, p1, _, _, _⟩ := BN
  obtain ⟨q0, q1, k0, k1, kz⟩ := BR
  clear c0 c1 d0 d1 g0 g1 H1
  go_region_held3 (fun w' => w'.cell? ⟨w1.heap.size, 0, none⟩ = some (.string t) ∧ w'.cell? ⟨w1.heap.size, 1, none⟩ = some (.int .i64 A)) (go_keep) (fail)
  go_wp2
  exact signed_post (((Box.drewN ⟨q0, q1, k0, k1, kz⟩ _).set0 _).set1 _) rfl rfl rfl rfl ⟨rfl, bq_set (bq_set (bq_drewN HB.out _) _ (by simp) _) _ (by simp) _⟩
theorem refsigned_err (s t : ByteArray) (a n A E : Int) (w : World) (hE : (E == 0) = false)
    (HP : Hid (∀ w, Calls Try.prog 74 #[.agg #[.string s, .int .i64 a], .int .i64 n] w fun e w' => e = .returned (.tuple #[.int .i64 0, .agg #[.string t, .int .i64 A], .int .i64 E]) ∧ Below w.heap.size w w')) :
    Calls Try.prog 83 #[.agg #[.string s, .int .i64 a], .int .i64 n] w fun e w' => e = .returned (.tuple #[.int .i64 0, .agg #[.string t, .int .i64 A], .int .i64 E]) ∧ Below w.heap.size w w' := by
  go_enter Try.func83, Try.ntmps83
  go_wp2_with fail
  refine (HP.out _).mono ?_
  rintro e w1 ⟨rfl, hb⟩
  obtain ⟨⟨c0, c1, _, _, _⟩, ⟨d0, d1, g0, g1, hz⟩, H⟩ := box2_kept hb
  have H1 := Lib.hid H
  clear hb H
  go_wp2_with fail
  have BN := box_new w1 (.string t) (.int .i64 A) 60
  have BR := Box.alloc ⟨d0, d1, g0, g1, hz⟩ (.cells #[.string t, .int .i64 A] 60)
  have HB := Lib.hid (bq_alloc H1.out (.cells #[.string t, .int .i64 A] 60))
  generalize w1.alloc (.cells #[.string t, .int .i64 A] 60) = W at BN BR HB ⊢
  have ne1 : ¬ w.heap.size + 1 = w1.heap.size := by omega
  have ne2 : ¬ w1.heap.size = w.heap.size + 1 := by omega
  obtain ⟨p0, p1, _, _, _⟩ := BN
  obtain ⟨q0, q1, k0, k1, kz⟩ := BR
  clear c0 c1 d0 d1 g0 g1 H1
  go_region_held3 (fun w' => w'.cell? ⟨w1.heap.size, 0, none⟩ = some (.string t) ∧ w'.cell? ⟨w1.heap.size, 1, none⟩ = some (.int .i64 A)) (go_keep) (fail)
  go_wp2
  exact refsigned_post (((Box.drewN ⟨q0, q1, k0, k1, kz⟩ _).set0 _).set1 _) rfl rfl rfl rfl ⟨rfl, bq_set (bq_set (bq_drewN HB.out _) _ (by simp) _) _ (by simp) _⟩
/-- what Plain told is a number -/
theorem signed_num (s t : ByteArray) (a A : Int) (n x : Nat) (w : World) (z : Int) (hn : n ≤ 31) (hx : x ≤ 2147483648)
    (HZ : Hid (x < B.P2 n ∧ (0 < n ∧ B.P2 n ≤ 2 * x ∧ z = (x : Int) - B.P2 n ∨ (n = 0 ∨ 2 * x < B.P2 n) ∧ z = x)))
    (HP : Hid (∀ w, Calls Try.prog 69 #[.agg #[.string s, .int .i64 a], .int .i64 n] w fun e w' => e = .returned (.tuple #[.int .i64 x, .agg #[.string t, .int .i64 A], .int .i64 0]) ∧ Below w.heap.size w w')) :
    Calls Try.prog 81 #[.agg #[.string s, .int .i64 a], .int .i64 n] w fun e w' => e = .returned (.tuple #[.int .i64 z, .agg #[.string t, .int .i64 A], .int .i64 0]) ∧ Below w.heap.size w w' := by
  by_cases hn0 : n = 0
  · have hz0 : z = x := by rcases HZ.out.2 with h | h <;> omega
    subst hn0
    subst hz0
    clear HZ
    go_enter Try.func81, Try.ntmps81
    go_wp2_with fail
    refine (HP.out _).mono ?_
    rintro e w1 ⟨rfl, hb⟩
    obtain ⟨⟨c0, c1, _, _, _⟩, ⟨d0, d1, g0, g1, hz⟩, H⟩ := box2_kept hb
    have H1 := Lib.hid H
    clear hb H
    go_wp2_with fail
    have BN := box_new w1 (.string t) (.int .i64 A) 51
    have BR := Box.alloc ⟨d0, d1, g0, g1, hz⟩ (.cells #[.string t, .int .i64 A] 51)
    have HB := Lib.hid (bq_alloc H1.out (.cells #[.string t, .int .i64 A] 51))
    generalize w1.alloc (.cells #[.string t, .int .i64 A] 51) = W at BN BR HB ⊢
    have ne1 : ¬ w.heap.size + 1 = w1.heap.size := by omega
    have ne2 : ¬ w1.heap.size = w.heap.size + 1 := by omega
    obtain ⟨p0, p1, _, _, _⟩ := BN
    obtain ⟨q0, q1, k0, k1, kz⟩ := BR
    clear c0 c1 d0 d1 g0 g1 H1
    go_region_held3 (fun w' => w'.cell? ⟨w1.heap.size, 0, none⟩ = some (.string t) ∧ w'.cell? ⟨w1.heap.size, 1, none⟩ = some (.int .i64 A)) (go_keep) (fail)
    go_wp2
    exact signed_post (((Box.drewN ⟨q0, q1, k0, k1, kz⟩ _).set0 _).set1 _) rfl rfl rfl rfl ⟨rfl, bq_set (bq_set (bq_drewN HB.out _) _ (by simp) _) _ (by simp) _⟩
  · have hn1 : 1 ≤ n := by omega
    have hp := B.P2_succ (n - 1)
    rw [show n - 1 + 1 = n by omega] at hp
    have hpb : B.P2 n ≤ 2147483648 := B.P2_le (b := 31) hn
    have hp0 := B.P2_pos (n - 1)
    obtain ⟨hxp, hzz⟩ := HZ.out
    clear hn0 HZ
    by_cases ht : B.P2 n ≤ 2 * x
    · have hb1 : ((x : Int) / 2 ^ (n - 1) == 1) = true := by
        rw [div_pow, beq_iff_eq, show x / B.P2 (n - 1) = 1 from (Nat.div_eq_iff hp0).2 (by omega)]
        rfl
      have HE : Hid (wrap64 ((x : Int) - wrap64 (2 ^ n)) = z) := Lib.hid (by rw [P2_cast, i64_id (B.P2 n : Int) (by omega) (by omega), i64_id _ (by omega) (by omega)]; omega)
      clear hp hpb hp0 hxp hzz ht
      go_enter Try.func81, Try.ntmps81
      go_wp2_with fail
      refine (HP.out _).mono ?_
      rintro e w1 ⟨rfl, hb⟩
      obtain ⟨⟨c0, c1, _, _, _⟩, ⟨d0, d1, g0, g1, hz⟩, H⟩ := box2_kept hb
      have H1 := Lib.hid H
      clear hb H
      go_wp2_with fail
      have BN := box_new w1 (.string t) (.int .i64 A) 51
      have BR := Box.alloc ⟨d0, d1, g0, g1, hz⟩ (.cells #[.string t, .int .i64 A] 51)
      have HB := Lib.hid (bq_alloc H1.out (.cells #[.string t, .int .i64 A] 51))
      generalize w1.alloc (.cells #[.string t, .int .i64 A] 51) = W at BN BR HB ⊢
      have ne1 : ¬ w.heap.size + 1 = w1.heap.size := by omega
      have ne2 : ¬ w1.heap.size = w.heap.size + 1 := by omega
      obtain ⟨p0, p1, _, _, _⟩ := BN
      obtain ⟨q0, q1, k0, k1, kz⟩ := BR
      clear c0 c1 d0 d1 g0 g1 H1
      go_region_held3 (fun w' => w'.cell? ⟨w1.heap.size, 0, none⟩ = some (.string t) ∧ w'.cell? ⟨w1.heap.size, 1, none⟩ = some (.int .i64 A)) (go_keep) (fail)
      go_wp2
      exact signed_post (((Box.drewN ⟨q0, q1, k0, k1, kz⟩ _).set0 _).set1 _) rfl rfl rfl rfl ⟨by rw [← HE.out]; rfl, bq_set (bq_set (bq_drewN HB.out _) _ (by simp) _) _ (by simp) _⟩
    · have hb1 : ((x : Int) / 2 ^ (n - 1) == 1) = false := by
        rw [div_pow, beq_eq_false_iff_ne, Nat.div_eq_of_lt (by omega)]
        decide
      obtain rfl : z = x := by omega
      clear hp hpb hp0 hxp hzz ht
      go_enter Try.func81, Try.ntmps81
      go_wp2_with fail
      refine (HP.out _).mono ?_
      rintro e w1 ⟨rfl, hb⟩
      obtain ⟨⟨c0, c1, _, _, _⟩, ⟨d0, d1, g0, g1, hz⟩, H⟩ := box2_kept hb
      have H1 := Lib.hid H
      clear hb H
      go_wp2_with fail
      have BN := box_new w1 (.string t) (.int .i64 A) 51
      have BR := Box.alloc ⟨d0, d1, g0, g1, hz⟩ (.cells #[.string t, .int .i64 A] 51)
      have HB := Lib.hid (bq_alloc H1.out (.cells #[.string t, .int .i64 A] 51))
      generalize w1.alloc (.cells #[.string t, .int .i64 A] 51) = W at BN BR HB ⊢
      have ne1 : ¬ w.heap.size + 1 = w1.heap.size := by omega
      have ne2 : ¬ w1.heap.size = w.heap.size + 1 := by omega
      obtain ⟨p0, p1, _, _, _⟩ := BN
      obtain ⟨q0, q1, k0, k1, kz⟩ := BR
      clear c0 c1 d0 d1 g0 g1 H1
      go_region_held3 (fun w' => w'.cell? ⟨w1.heap.size, 0, none⟩ = some (.string t) ∧ w'.cell? ⟨w1.heap.size, 1, none⟩ = some (.int .i64 A)) (go_keep) (fail)
      go_wp2
      exact signed_post (((Box.drewN ⟨q0, q1, k0, k1, kz⟩ _).set0 _).set1 _) rfl rfl rfl rfl ⟨rfl, bq_set (bq_set (bq_drewN HB.out _) _ (by simp) _) _ (by simp) _⟩
theorem refsigned_num (s t : ByteArray) (a A : Int) (n x : Nat) (w : World) (z : Int) (hn : n ≤ 31) (hx : x ≤ 2147483648)
    (HZ : Hid (x < B.P2 n ∧ (0 < n ∧ B.P2 n ≤ 2 * x ∧ z = (x : Int) - B.P2 n ∨ (n = 0 ∨ 2 * x < B.P2 n) ∧ z = x)))
    (HP : Hid (∀ w, Calls Try.prog 74 #[.agg #[.string s, .int .i64 a], .int .i64 n] w fun e w' => e = .returned (.tuple #[.int .i64 x, .agg #[.string t, .int .i64 A], .int .i64 0]) ∧ Below w.heap.size w w')) :
    Calls Try.prog 83 #[.agg #[.string s, .int .i64 a], .int .i64 n] w fun e w' => e = .returned (.tuple #[.int .i64 z, .agg #[.string t, .int .i64 A], .int .i64 0]) ∧ Below w.heap.size w w' := by
  by_cases hn0 : n = 0
  · have hz0 : z = x := by rcases HZ.out.2 with h | h <;> omega
    subst hn0
    subst hz0
    clear HZ
    go_enter Try.func83, Try.ntmps83
    go_wp2_with fail
    refine (HP.out _).mono ?_
    rintro e w1 ⟨rfl, hb⟩
    obtain ⟨⟨c0, c1, _, _, _⟩, ⟨d0, d1, g0, g1, hz⟩, H⟩ := box2_kept hb
    have H1 := Lib.hid H
    clear hb H
    go_wp2_with fail
    have BN := box_new w1 (.string t) (.int .i64 A) 60
    have BR := Box.alloc ⟨d0, d1, g0, g1, hz⟩ (.cells #[.string t, .int .i64 A] 60)
    have HB := Lib.hid (bq_alloc H1.out (.cells #[.string t, .int .i64 A] 60))
    generalize w1.alloc (.cells #[.string t, .int .i64 A] 60) = W at BN BR HB ⊢
    have ne1 : ¬ w.heap.size + 1 = w1.heap.size := by omega
    have ne2 : ¬ w1.heap.size = w.heap.size + 1 := by omega
    obtain ⟨p0, p1, _, _, _⟩ := BN
    obtain ⟨q0, q1, k0, k1, kz⟩ := BR
    clear c0 c1 d0 d1 g0 g1 H1
    go_region_held3 (fun w' => w'.cell? ⟨w1.heap.size, 0, none⟩ = some (.string t) ∧ w'.cell? ⟨w1.heap.size, 1, none⟩ = some (.int .i64 A)) (go_keep) (fail)
    go_wp2
    exact refsigned_post (((Box.drewN ⟨q0, q1, k0, k1, kz⟩ _).set0 _).set1 _) rfl rfl rfl rfl ⟨rfl, bq_set (bq_set (bq_drewN HB.out _) _ (by simp) _) _ (by simp) _⟩
  · have hn1 : 1 ≤ n := by omega
    have hpb : B.P2 n ≤ 2147483648 := B.P2_le (b := 31) hn
    obtain ⟨hxp, hzz⟩ := HZ.out
    clear hn0 HZ
    by_cases ht : B.P2 n ≤ 2 * x
    · have HE : Hid (z = (x : Int) - (B.P2 n : Int)) := Lib.hid (by omega)
      clear hzz
      go_enter Try.func83, Try.ntmps83
      go_wp2_with fail
      refine (HP.out _).mono ?_
      rintro e w1 ⟨rfl, hb⟩
      obtain ⟨⟨c0, c1, _, _, _⟩, ⟨d0, d1, g0, g1, hz⟩, H⟩ := box2_kept hb
      have H1 := Lib.hid H
      clear hb H
      go_wp2_with (go_at_call 79; refine (power_any n _ (by omega)).mono ?_; rintro e w' ⟨rfl, rfl⟩)
      have BN := box_new w1 (.string t) (.int .i64 A) 60
      have BR := Box.alloc ⟨d0, d1, g0, g1, hz⟩ (.cells #[.string t, .int .i64 A] 60)
      have HB := Lib.hid (bq_alloc H1.out (.cells #[.string t, .int .i64 A] 60))
      generalize w1.alloc (.cells #[.string t, .int .i64 A] 60) = W at BN BR HB ⊢
      have ne1 : ¬ w.heap.size + 1 = w1.heap.size := by omega
      have ne2 : ¬ w1.heap.size = w.heap.size + 1 := by omega
      obtain ⟨p0, p1, _, _, _⟩ := BN
      obtain ⟨q0, q1, k0, k1, kz⟩ := BR
      clear c0 c1 d0 d1 g0 g1 H1
      go_region_held3 (fun w' => w'.cell? ⟨w1.heap.size, 0, none⟩ = some (.string t) ∧ w'.cell? ⟨w1.heap.size, 1, none⟩ = some (.int .i64 A)) (go_keep) (fail)
      go_wp2
      exact refsigned_post (((Box.drewN ⟨q0, q1, k0, k1, kz⟩ _).set0 _).set1 _) rfl rfl rfl rfl ⟨by rw [HE.out]; rfl, bq_set (bq_set (bq_drewN HB.out _) _ (by simp) _) _ (by simp) _⟩
    · obtain rfl : z = x := by omega
      clear hzz
      go_enter Try.func83, Try.ntmps83
      go_wp2_with fail
      refine (HP.out _).mono ?_
      rintro e w1 ⟨rfl, hb⟩
      obtain ⟨⟨c0, c1, _, _, _⟩, ⟨d0, d1, g0, g1, hz⟩, H⟩ := box2_kept hb
      have H1 := Lib.hid H
      clear hb H
      go_wp2_with (go_at_call 79; refine (power_any n _ (by omega)).mono ?_; rintro e w' ⟨rfl, rfl⟩)
      have BN := box_new w1 (.string t) (.int .i64 A) 60
      have BR := Box.alloc ⟨d0, d1, g0, g1, hz⟩ (.cells #[.string t, .int .i64 A] 60)
      have HB := Lib.hid (bq_alloc H1.out (.cells #[.string t, .int .i64 A] 60))
      generalize w1.alloc (.cells #[.string t, .int .i64 A] 60) = W at BN BR HB ⊢
      have ne1 : ¬ w.heap.size + 1 = w1.heap.size := by omega
      have ne2 : ¬ w1.heap.size = w.heap.size + 1 := by omega
      obtain ⟨p0, p1, _, _, _⟩ := BN
      obtain ⟨q0, q1, k0, k1, kz⟩ := BR
      clear c0 c1 d0 d1 g0 g1 H1
      go_region_held3 (fun w' => w'.cell? ⟨w1.heap.size, 0, none⟩ = some (.string t) ∧ w'.cell? ⟨w1.heap.size, 1, none⟩ = some (.int .i64 A)) (go_keep) (fail)
      go_wp2
      exact refsigned_post (((Box.drewN ⟨q0, q1, k0, k1, kz⟩ _).set0 _).set1 _) rfl rfl rfl rfl ⟨rfl, bq_set (bq_set (bq_drewN HB.out _) _ (by simp) _) _ (by simp) _⟩

theorem sg_cases (s : ByteArray) (a n : Int) : (∃ E A t, plR s a n = .tuple #[.int .i64 0, .agg #[.string t, .int .i64 A], .int .i64 E] ∧ (E == 0) = false ∧ sgR s a n = plR s a n) ∨
    (∃ N x : Nat, ∃ A z t, n = N ∧ N ≤ 31 ∧ x ≤ 2147483648 ∧ plR s a n = .tuple #[.int .i64 x, .agg #[.string t, .int .i64 A], .int .i64 0] ∧ sgR s a n = .tuple #[.int .i64 z, .agg #[.string t, .int .i64 A], .int .i64 0] ∧
      (x < B.P2 N ∧ (0 < N ∧ B.P2 N ≤ 2 * x ∧ z = (x : Int) - B.P2 N ∨ (N = 0 ∨ 2 * x < B.P2 N) ∧ z = x))) := by
  by_cases h : plE s.size a n = 0
  · right
    have hn : 0 ≤ n ∧ n ≤ 31 := by
      unfold plE at h
      split at h
      · omega
      · cases h
    obtain ⟨N, rfl⟩ := Int.eq_ofNat_of_zero_le hn.1
    obtain ⟨x, hx⟩ : ∃ x : Nat, x = B.fld s.data.toList a.toNat N := ⟨_, rfl⟩
    have hv : plV s a N = x := by unfold plV; rw [if_pos h, hx]; rfl
    have hlt : x < B.P2 N := by rw [hx]; exact B.fld_lt _ _ _
    have hP : B.P2 N ≤ B.P2 31 := B.P2_le (by omega)
    have hP2 : B.P2 31 = 2147483648 := rfl
    refine ⟨N, x, plA s a N, sgV s a N, plS s a N, rfl, by omega, by omega, by rw [plR, hv, h], by rw [sgR, h], hlt, ?_⟩
    unfold sgV
    rw [hv, Int.toNat_natCast, Int.toNat_natCast]
    by_cases c : 0 < (N : Int) ∧ B.P2 N ≤ 2 * x
    · left; rw [if_pos c]; exact ⟨by omega, c.2, rfl⟩
    · right; rw [if_neg c]; exact ⟨by omega, rfl⟩
  · left
    have hv : plV s a n = 0 := if_neg h
    refine ⟨plE s.size a n, plA s a n, plS s a n, by rw [plR, hv], by rw [beq_eq_false_iff_ne]; exact h, ?_⟩
    have hs : sgV s a n = 0 := by
      unfold sgV
      rw [hv, if_neg]
      have := B.P2_pos n.toNat
      simp
      omega
    rw [sgR, hs, plR, hv]
theorem signed_any (s : ByteArray) (a n : Int) (w : World) (hs : s.size ≤ 1099511627776) :
    Calls Try.prog 81 #[.agg #[.string s, .int .i64 a], .int .i64 n] w fun e w' => e = .returned (sgR s a n) ∧ Below w.heap.size w w' := by
  have HP := fun w => plain_any s a n w hs
  rcases sg_cases s a n with ⟨E, A, t, h1, h2, h3⟩ | ⟨N, x, A, z, t, rfl, h1, h2, h3, h4, h5⟩
  · rw [h3, h1]; rw [h1] at HP; exact signed_err s t a n A E w h2 (Lib.hid HP)
  · rw [h4]; rw [h3] at HP; exact signed_num s t a A N x w z h1 h2 (Lib.hid h5) (Lib.hid HP)
theorem refsigned_any (s : ByteArray) (a n : Int) (w : World) (hs : s.size ≤ 1099511627776) :
    Calls Try.prog 83 #[.agg #[.string s, .int .i64 a], .int .i64 n] w fun e w' => e = .returned (sgR s a n) ∧ Below w.heap.size w w' := by
  have HP := fun w => refplain_any s a n w hs
  rcases sg_cases s a n with ⟨E, A, t, h1, h2, h3⟩ | ⟨N, x, A, z, t, rfl, h1, h2, h3, h4, h5⟩
  · rw [h3, h1]; rw [h1] at HP; exact refsigned_err s t a n A E w h2 (Lib.hid HP)
  · rw [h4]; rw [h3] at HP; exact refsigned_num s t a A N x w z h1 h2 (Lib.hid h5) (Lib.hid HP)
end Go.Proofs.Ytfaipbdkkkhacaa
/- Layer 2: Align. -/
namespace Go.Proofs.Ytfaipbdkkkhacaa
open Go.RowKit
set_option linter.unusedVariables false

def alA (m : Nat) (a : Int) : Int := if 0 ≤ a ∧ a ≤ 8 * m then (a + 7) / 8 * 8 else a
theorem align_post {Q : Ending → World → Prop} {a : Act} {W : World} {g : Nat} {x y : Value} (hbox : Box W g x y) (h : a.tmps[2]?.getD undef = .pointer (some ⟨g, 0, none⟩))
    (hd : a.defers = []) (hQ : Q (.returned (.agg #[x, y])) W) : bodyPost Try.prog Try.f66 Q Exit.ret a W :=
  bodyPost_ret (v := .agg #[x, y]) (by simp [results, Try.results66, go_sem, h, hbox.1, hbox.2.1]) hd hQ
theorem refalign_post {Q : Ending → World → Prop} {a : Act} {W : World} {g : Nat} {x y : Value} (hbox : Box W g x y) (h : a.tmps[2]?.getD undef = .pointer (some ⟨g, 0, none⟩))
    (hd : a.defers = []) (hQ : Q (.returned (.agg #[x, y])) W) : bodyPost Try.prog Try.f73 Q Exit.ret a W :=
  bodyPost_ret (v := .agg #[x, y]) (by simp [results, Try.results73, go_sem, h, hbox.1, hbox.2.1]) hd hQ
theorem align_yes (s : ByteArray) (a : Int) (w : World) (hs : s.size ≤ 1099511627776) (h0 : 0 ≤ a) (h1 : a ≤ 8 * s.size) :
    Calls Try.prog 66 #[.agg #[.string s, .int .i64 a]] w fun e w' => e = .returned (.agg #[.string s, .int .i64 ((a + 7) / 8 * 8)]) ∧ Below w.heap.size w w' := by
  go_enter Try.func66, Try.ntmps66
  go_wp2_with fail
  refine (isright_yes s a _ hs h0 h1).mono ?_
  rintro e w1 ⟨rfl, hb⟩
  obtain ⟨⟨c0, c1, f0, f1, _⟩, ⟨d0, d1, g0, g1, hz⟩, H⟩ := box2_kept hb
  have H1 := Lib.hid H
  clear hb H
  go_wp2
  exact align_post ((((Box.far ⟨d0, d1, g0, g1, hz⟩ (by simp) _).set0 _).set1 _)) rfl rfl ⟨rfl, bq_set (bq_set (bq_set H1.out _ (by simp) _) _ (by simp) _) _ (by simp) _⟩
theorem align_no (s : ByteArray) (a : Int) (w : World) (hs : s.size ≤ 1099511627776) (h : a < 0 ∨ 8 * s.size < a) :
    Calls Try.prog 66 #[.agg #[.string s, .int .i64 a]] w fun e w' => e = .returned (.agg #[.string s, .int .i64 a]) ∧ Below w.heap.size w w' := by
  have H := Lib.hid h
  clear h
  go_enter Try.func66, Try.ntmps66
  go_wp2_with fail
  refine (isright_no s a _ hs H.out).mono ?_
  rintro e w1 ⟨rfl, hb⟩
  obtain ⟨⟨c0, c1, f0, f1, _⟩, ⟨d0, d1, g0, g1, hz⟩, H⟩ := box2_kept hb
  have H1 := Lib.hid H
  clear hb H
  go_wp2
  exact align_post (((Box.set0 ⟨d0, d1, g0, g1, hz⟩ _).set1 _)) rfl rfl ⟨rfl, bq_set (bq_set H1.out _ (by simp) _) _ (by simp) _⟩
theorem align_any (s : ByteArray) (a : Int) (w : World) (hs : s.size ≤ 1099511627776) :
    Calls Try.prog 66 #[.agg #[.string s, .int .i64 a]] w fun e w' => e = .returned (.agg #[.string s, .int .i64 (alA s.size a)]) ∧ Below w.heap.size w w' := by
  unfold alA
  by_cases h : 0 ≤ a ∧ a ≤ 8 * s.size
  · rw [if_pos h]; exact align_yes s a w hs h.1 h.2
  · rw [if_neg h]; exact align_no s a w hs (by omega)

def cellInt (w : World) (g o : Nat) : Int := match w.cell? ⟨g, o, none⟩ with | some (.int _ n) => n | _ => 0
theorem cellInt_eq {w : World} {g o : Nat} {k : IntKind} {x : Int} (h : w.cell? ⟨g, o, none⟩ = some (.int k x)) : cellInt w g o = x := by unfold cellInt; rw [h]
def alM (w : World) (g : Nat) : Nat := ((8 - cellInt w g 1 % 8) % 8).toNat
def AlRel (s : ByteArray) (a : Int) (w wr : World) : Prop :=
  ∃ x : Int, Box wr w.heap.size (.string s) (.int .i64 x) ∧ Box wr (w.heap.size + 1) (.string ⟨#[]⟩) (.int .i64 0) ∧ Below w.heap.size w wr ∧ alA s.size x = alA s.size a
set_option maxHeartbeats 1000000 in
theorem refalign_any (s : ByteArray) (a : Int) (w : World) (hs : s.size ≤ 1099511627776) :
    Calls Try.prog 73 #[.agg #[.string s, .int .i64 a]] w fun e w' => e = .returned (.agg #[.string s, .int .i64 (alA s.size a)]) ∧ Below w.heap.size w w' := by
  go_enter Try.func73, Try.ntmps73
  go_wp2_with fail
  go_loopw [] (fun wr => AlRel s a w wr) (fun wr => alM wr w.heap.size)
  case atStart =>
    obtain ⟨h1, h2, h3⟩ := box2_kept (bq_refl ((w.alloc (.cells #[.string s, .int .i64 a] 60)).alloc (.cells #[.string ⟨#[]⟩, .int .i64 0] 60)))
    exact ⟨a, h1, h2, h3, rfl⟩
  case round =>
    obtain ⟨x, ⟨c0, c1, f0, f1, cz⟩, ⟨d0, d1, g0, g1, hz⟩, H, he⟩ := hrel
    have H1 := Lib.hid H
    have HE := Lib.hid he
    clear H he
    by_cases h : 0 ≤ x ∧ x ≤ 8 * s.size
    · obtain ⟨h0, h1⟩ := h
      by_cases hm : x % 8 = 0
      · have hbn : (x % 8 != 0) = false := by simp [hm]
        have HA : Hid (alA s.size a = x) := Lib.hid (by rw [← HE.out]; unfold alA; rw [if_pos ⟨h0, h1⟩]; omega)
        clear hm
        go_wp2_with fail
        refine (refright_yes s x _ hs h0 h1).mono ?_
        rintro e w1 ⟨rfl, hb⟩
        obtain ⟨c0', c1', f0', f1', cz'⟩ := Box.keep ⟨c0, c1, f0, f1, cz⟩ hb
        obtain ⟨d0', d1', g0', g1', hz'⟩ := Box.keep ⟨d0, d1, g0, g1, hz⟩ hb
        have H2 := Lib.hid (bq_trans H1.out hb)
        clear hb
        go_wp2_with fail
        exact refalign_post (((Box.set0 ⟨d0', d1', g0', g1', hz'⟩ _).set1 _)) rfl rfl ⟨by rw [HA.out], bq_set (bq_set H2.out _ (by simp) _) _ (by simp) _⟩
      · have hbn : (x % 8 != 0) = true := by rw [bne_iff_ne]; exact hm
        go_wp2_with fail
        refine (refright_yes s x _ hs h0 h1).mono ?_
        rintro e w1 ⟨rfl, hb⟩
        obtain ⟨c0', c1', f0', f1', cz'⟩ := Box.keep ⟨c0, c1, f0, f1, cz⟩ hb
        obtain ⟨d0', d1', g0', g1', hz'⟩ := Box.keep ⟨d0, d1, g0, g1, hz⟩ hb
        have H2 := Lib.hid (bq_trans H1.out hb)
        clear hb
        go_wp2_with fail
        have B1 : Box (w1.setCell ⟨w.heap.size, 1, none⟩ (.int .i64 (x + 1))) w.heap.size (.string s) (.int .i64 (x + 1)) := Box.set1 ⟨c0', c1', f0', f1', cz'⟩ _
        refine ⟨⟨x + 1, B1, Box.far ⟨d0', d1', g0', g1', hz'⟩ (by simp) _, bq_set H2.out _ (by simp) _, ?_⟩, ?_⟩
        · rw [← HE.out]; unfold alA; rw [if_pos (show 0 ≤ x + 1 ∧ x + 1 ≤ 8 * s.size by omega), if_pos ⟨h0, h1⟩]; omega
        · unfold alM
          rw [cellInt_eq B1.2.1, cellInt_eq c1]
          omega
    · have HA : Hid (alA s.size a = x) := Lib.hid (by rw [← HE.out]; unfold alA; rw [if_neg h])
      have HH : Hid (x < 0 ∨ 8 * s.size < x) := Lib.hid (by omega)
      clear h
      go_wp2_with fail
      refine (refright_no s x _ hs HH.out).mono ?_
      rintro e w1 ⟨rfl, hb⟩
      obtain ⟨c0', c1', f0', f1', cz'⟩ := Box.keep ⟨c0, c1, f0, f1, cz⟩ hb
      obtain ⟨d0', d1', g0', g1', hz'⟩ := Box.keep ⟨d0, d1, g0, g1, hz⟩ hb
      have H2 := Lib.hid (bq_trans H1.out hb)
      clear hb
      go_wp2_with fail
      exact refalign_post (((Box.set0 ⟨d0', d1', g0', g1', hz'⟩ _).set1 _)) rfl rfl ⟨by rw [HA.out], bq_set (bq_set H2.out _ (by simp) _) _ (by simp) _⟩
end Go.Proofs.Ytfaipbdkkkhacaa
/- Layer 2: the next bytes of a reader; the program's and the document's. -/
namespace Go.Proofs.Ytfaipbdkkkhacaa
open Go.RowKit
set_option linter.unusedVariables false

def errB (e : Int) : Value := .tuple #[.string ⟨#[]⟩, .agg #[.string ⟨#[]⟩, .int .i64 0], .int .i64 e]
def byE (m : Nat) (a n : Int) : Int := if 0 ≤ a ∧ a ≤ 8 * m ∧ 0 ≤ n then (if (m : Int) - (a + 7) / 8 < n then 2 else 0) else 1
def byB (s : ByteArray) (a n : Int) : ByteArray := if byE s.size a n = 0 then s.extract ((a + 7) / 8).toNat (((a + 7) / 8).toNat + n.toNat) else ⟨#[]⟩
def byS (s : ByteArray) (a n : Int) : ByteArray := if byE s.size a n = 0 then s else ⟨#[]⟩
def byA (s : ByteArray) (a n : Int) : Int := if byE s.size a n = 0 then 8 * ((a + 7) / 8 + n) else 0
def byR (s : ByteArray) (a n : Int) : Value := .tuple #[.string (byB s a n), .agg #[.string (byS s a n), .int .i64 (byA s a n)], .int .i64 (byE s.size a n)]
theorem byR_arg {s : ByteArray} {a n : Int} (h : ¬ (0 ≤ a ∧ a ≤ 8 * s.size ∧ 0 ≤ n)) : byR s a n = errB 1 := by
  have e : byE s.size a n = 1 := if_neg h
  simp [byR, byB, byS, byA, e, errB]
theorem byR_short {s : ByteArray} {a n : Int} (h : 0 ≤ a ∧ a ≤ 8 * s.size ∧ 0 ≤ n) (h2 : (s.size : Int) - (a + 7) / 8 < n) : byR s a n = errB 2 := by
  have e : byE s.size a n = 2 := by unfold byE; rw [if_pos h, if_pos h2]
  simp [byR, byB, byS, byA, e, errB]
theorem byR_ok {s : ByteArray} {a : Int} {n k : Nat} (h : 0 ≤ a ∧ a ≤ 8 * s.size ∧ 0 ≤ (n : Int)) (hk : (k : Int) = (a + 7) / 8) (h2 : ¬ (s.size : Int) - (a + 7) / 8 < n) :
    byR s a n = .tuple #[.string (s.extract k (k + n)), .agg #[.string s, .int .i64 (8 * ((k : Int) + (n : Int)))], .int .i64 0] := by
  have e : byE s.size a n = 0 := by unfold byE; rw [if_pos h, if_neg h2]
  simp [byR, byB, byS, byA, e, ← hk]

theorem bytes_post {Q : Ending → World → Prop} {a : Act} {W : World} {g : Nat} {x y u v : Value} (hbox : Box W g x y) (h4 : a.tmps[4]?.getD undef = u) (h5 : a.tmps[5]?.getD undef = .pointer (some ⟨g, 0, none⟩)) (h6 : a.tmps[6]?.getD undef = v)
    (hd : a.defers = []) (hQ : Q (.returned (.tuple #[u, .agg #[x, y], v])) W) : bodyPost Try.prog Try.f54 Q Exit.ret a W :=
  bodyPost_ret (v := .tuple #[u, .agg #[x, y], v]) (by simp [results, Try.results54, go_sem, h4, h5, h6, hbox.1, hbox.2.1]) hd hQ
theorem bytes_bad1 (s : ByteArray) (a n : Int) (w : World) (hs : s.size ≤ 1099511627776) (h : a < 0 ∨ 8 * s.size < a) :
    Calls Try.prog 54 #[.agg #[.string s, .int .i64 a], .int .i64 n] w fun e w' => e = .returned (errB 1) ∧ Below w.heap.size w w' := by
  have H := Lib.hid h
  clear h
  go_enter Try.func54, Try.ntmps54
  go_wp2_with fail
  refine (isright_no s a _ hs H.out).mono ?_
  rintro e w1 ⟨rfl, hb⟩
  obtain ⟨⟨c0, c1, f0, f1, _⟩, ⟨d0, d1, g0, g1, hz⟩, H⟩ := box2_kept hb
  have H1 := Lib.hid H
  clear hb H
  go_wp2_with fail
  exact bytes_post (((Box.set0 ⟨d0, d1, g0, g1, hz⟩ _).set1 _)) rfl rfl rfl rfl ⟨rfl, bq_set (bq_set H1.out _ (by simp) _) _ (by simp) _⟩
theorem bytes_bad2 (s : ByteArray) (a n : Int) (w : World) (hs : s.size ≤ 1099511627776) (h0 : 0 ≤ a) (h1 : a ≤ 8 * s.size) (h : n < 0) :
    Calls Try.prog 54 #[.agg #[.string s, .int .i64 a], .int .i64 n] w fun e w' => e = .returned (errB 1) ∧ Below w.heap.size w w' := by
  go_enter Try.func54, Try.ntmps54
  go_wp2_with fail
  refine (isright_yes s a _ hs h0 h1).mono ?_
  rintro e w1 ⟨rfl, hb⟩
  obtain ⟨⟨c0, c1, f0, f1, _⟩, ⟨d0, d1, g0, g1, hz⟩, H⟩ := box2_kept hb
  have H1 := Lib.hid H
  clear hb H
  go_wp2_with fail
  exact bytes_post (((Box.set0 ⟨d0, d1, g0, g1, hz⟩ _).set1 _)) rfl rfl rfl rfl ⟨rfl, bq_set (bq_set H1.out _ (by simp) _) _ (by simp) _⟩
theorem bytes_short (s : ByteArray) (a n : Int) (k : Nat) (w : World) (hs : s.size ≤ 1099511627776) (h0 : 0 ≤ a) (h1 : a ≤ 8 * s.size) (hn : 0 ≤ n) (hk : k ≤ s.size) (h : (s.size : Int) - k < n)
    (HA : Hid (∀ w, Calls Try.prog 66 #[.agg #[.string s, .int .i64 a]] w fun e w' => e = .returned (.agg #[.string s, .int .i64 ((k : Int) * 8)]) ∧ Below w.heap.size w w')) :
    Calls Try.prog 54 #[.agg #[.string s, .int .i64 a], .int .i64 n] w fun e w' => e = .returned (errB 2) ∧ Below w.heap.size w w' := by
  have hfd : ∀ w : World, (Instr.field 51 (.agg #[.string s, .int .i64 ((k : Int) * 8)]) 1).run Try.prog w = .ok (.int .i64 ((k : Int) * 8)) w := fun _ => by kernel_rfl
  go_enter Try.func54, Try.ntmps54
  go_wp2_with fail
  refine (isright_yes s a _ hs h0 h1).mono ?_
  rintro e w1 ⟨rfl, hb⟩
  obtain ⟨⟨c0, c1, f0, f1, cz⟩, ⟨d0, d1, g0, g1, hz⟩, H⟩ := box2_kept hb
  have H1 := Lib.hid H
  clear hb H
  go_wp2_with fail
  refine (HA.out _).mono ?_
  rintro e w2 ⟨rfl, hb⟩
  obtain ⟨c0', c1', f0', f1', cz'⟩ := Box.keep ⟨c0, c1, f0, f1, cz⟩ hb
  obtain ⟨d0', d1', g0', g1', hz'⟩ := Box.keep ⟨d0, d1, g0, g1, hz⟩ hb
  have H2 := Lib.hid (bq_trans H1.out hb)
  clear hb
  go_wp2_with fail
  exact bytes_post (((Box.set0 ⟨d0', d1', g0', g1', hz'⟩ _).set1 _)) rfl rfl rfl rfl ⟨rfl, bq_set (bq_set H2.out _ (by simp) _) _ (by simp) _⟩
set_option maxHeartbeats 1000000 in
theorem bytes_ok (s : ByteArray) (a : Int) (k n : Nat) (w : World) (hs : s.size ≤ 1099511627776) (h0 : 0 ≤ a) (h1 : a ≤ 8 * s.size) (hk : k + n ≤ s.size)
    (HA : Hid (∀ w, Calls Try.prog 66 #[.agg #[.string s, .int .i64 a]] w fun e w' => e = .returned (.agg #[.string s, .int .i64 ((k : Int) * 8)]) ∧ Below w.heap.size w w')) :
    Calls Try.prog 54 #[.agg #[.string s, .int .i64 a], .int .i64 n] w fun e w' => e = .returned (.tuple #[.string (s.extract k (k + n)), .agg #[.string s, .int .i64 (8 * ((k : Int) + (n : Int)))], .int .i64 0]) ∧ Below w.heap.size w w' := by
  have hfd : ∀ w : World, (Instr.field 51 (.agg #[.string s, .int .i64 ((k : Int) * 8)]) 1).run Try.prog w = .ok (.int .i64 ((k : Int) * 8)) w := fun _ => by kernel_rfl
  go_enter Try.func54, Try.ntmps54
  go_wp2_with fail
  refine (isright_yes s a _ hs h0 h1).mono ?_
  rintro e w1 ⟨rfl, hb⟩
  obtain ⟨⟨c0, c1, f0, f1, cz⟩, ⟨d0, d1, g0, g1, hz⟩, H⟩ := box2_kept hb
  have H1 := Lib.hid H
  clear hb H
  go_wp2_with fail
  refine (HA.out _).mono ?_
  rintro e w2 ⟨rfl, hb⟩
  obtain ⟨c0', c1', f0', f1', cz'⟩ := Box.keep ⟨c0, c1, f0, f1, cz⟩ hb
  obtain ⟨d0', d1', g0', g1', hz'⟩ := Box.keep ⟨d0, d1, g0, g1, hz⟩ hb
  have H2 := Lib.hid (bq_trans H1.out hb)
  clear hb
  go_wp2_with fail
  clear c0 c1 f0 f1 cz d0 d1 g0 g1 hz H1
  have b1 : (0 : Int) ≤ (k : Int) := by omega
  have b2 : (k : Int) ≤ (k : Int) + (n : Int) := by omega
  have b3 : (k : Int) + (n : Int) ≤ (s.size : Int) := by omega
  have wr1 := i64_wrap ((k : Int) + (n : Int)) (by omega) (by omega)
  have wr2 := i64_wrap (8 * ((k : Int) + (n : Int))) (by omega) (by omega)
  have tn : ((k : Int) + (n : Int)).toNat = k + n := by omega
  go_region_held3 (fun w' => w'.cell? ⟨w.heap.size, 0, none⟩ = some (.string s)) (go_keep) (fail)
  all_goals go_wp2
  exact bytes_post ((((Box.drewN ⟨d0', d1', g0', g1', hz'⟩ _).set0 _).set1 _)) rfl rfl rfl rfl ⟨rfl, bq_set (bq_set (bq_drewN H2.out _) _ (by simp) _) _ (by simp) _⟩
theorem bytes_any (s : ByteArray) (a n : Int) (w : World) (hs : s.size ≤ 1099511627776) :
    Calls Try.prog 54 #[.agg #[.string s, .int .i64 a], .int .i64 n] w fun e w' => e = .returned (byR s a n) ∧ Below w.heap.size w w' := by
  by_cases h : 0 ≤ a ∧ a ≤ 8 * s.size ∧ 0 ≤ n
  · obtain ⟨k, hk⟩ : ∃ k : Nat, (k : Int) = (a + 7) / 8 := ⟨((a + 7) / 8).toNat, by omega⟩
    have HA := fun w => align_any s a w hs
    rw [alA, if_pos ⟨h.1, h.2.1⟩, ← hk] at HA
    by_cases h2 : (s.size : Int) - (a + 7) / 8 < n
    · rw [byR_short h h2]; exact bytes_short s a n k w hs h.1 h.2.1 h.2.2 (by omega) (by omega) (Lib.hid HA)
    · obtain ⟨N, rfl⟩ := Int.eq_ofNat_of_zero_le h.2.2
      rw [byR_ok h hk h2]; exact bytes_ok s a k N w hs h.1 h.2.1 (by omega) (Lib.hid HA)
  · rw [byR_arg h]
    by_cases h3 : 0 ≤ a ∧ a ≤ 8 * s.size
    · exact bytes_bad2 s a n w hs h3.1 h3.2 (by omega)
    · exact bytes_bad1 s a n w hs (by omega)

theorem refbytes_post {Q : Ending → World → Prop} {a : Act} {W : World} {g : Nat} {x y u v : Value} (hbox : Box W g x y) (h4 : a.tmps[4]?.getD undef = u) (h5 : a.tmps[5]?.getD undef = .pointer (some ⟨g, 0, none⟩)) (h6 : a.tmps[6]?.getD undef = v)
    (hd : a.defers = []) (hQ : Q (.returned (.tuple #[u, .agg #[x, y], v])) W) : bodyPost Try.prog Try.f59 Q Exit.ret a W :=
  bodyPost_ret (v := .tuple #[u, .agg #[x, y], v]) (by simp [results, Try.results59, go_sem, h4, h5, h6, hbox.1, hbox.2.1]) hd hQ
theorem refbytes_bad1 (s : ByteArray) (a n : Int) (w : World) (hs : s.size ≤ 1099511627776) (h : a < 0 ∨ 8 * s.size < a) :
    Calls Try.prog 59 #[.agg #[.string s, .int .i64 a], .int .i64 n] w fun e w' => e = .returned (errB 1) ∧ Below w.heap.size w w' := by
  have H := Lib.hid h
  clear h
  go_enter Try.func59, Try.ntmps59
  go_wp2_with fail
  refine (refright_no s a _ hs H.out).mono ?_
  rintro e w1 ⟨rfl, hb⟩
  obtain ⟨⟨c0, c1, f0, f1, _⟩, ⟨d0, d1, g0, g1, hz⟩, H⟩ := box2_kept hb
  have H1 := Lib.hid H
  clear hb H
  go_wp2_with fail
  exact refbytes_post (((Box.set0 ⟨d0, d1, g0, g1, hz⟩ _).set1 _)) rfl rfl rfl rfl ⟨rfl, bq_set (bq_set H1.out _ (by simp) _) _ (by simp) _⟩
theorem refbytes_bad2 (s : ByteArray) (a n : Int) (w : World) (hs : s.size ≤ 1099511627776) (h0 : 0 ≤ a) (h1 : a ≤ 8 * s.size) (h : n < 0) :
    Calls Try.prog 59 #[.agg #[.string s, .int .i64 a], .int .i64 n] w fun e w' => e = .returned (errB 1) ∧ Below w.heap.size w w' := by
  go_enter Try.func59, Try.ntmps59
  go_wp2_with fail
  refine (refright_yes s a _ hs h0 h1).mono ?_
  rintro e w1 ⟨rfl, hb⟩
  obtain ⟨⟨c0, c1, f0, f1, _⟩, ⟨d0, d1, g0, g1, hz⟩, H⟩ := box2_kept hb
  have H1 := Lib.hid H
  clear hb H
  go_wp2_with fail
  exact refbytes_post (((Box.set0 ⟨d0, d1, g0, g1, hz⟩ _).set1 _)) rfl rfl rfl rfl ⟨rfl, bq_set (bq_set H1.out _ (by simp) _) _ (by simp) _⟩
theorem refbytes_short (s : ByteArray) (a n : Int) (k : Nat) (w : World) (hs : s.size ≤ 1099511627776) (h0 : 0 ≤ a) (h1 : a ≤ 8 * s.size) (hn : 0 ≤ n) (hk : k ≤ s.size) (h : (s.size : Int) - k < n)
    (HA : Hid (∀ w, Calls Try.prog 73 #[.agg #[.string s, .int .i64 a]] w fun e w' => e = .returned (.agg #[.string s, .int .i64 ((k : Int) * 8)]) ∧ Below w.heap.size w w')) :
    Calls Try.prog 59 #[.agg #[.string s, .int .i64 a], .int .i64 n] w fun e w' => e = .returned (errB 2) ∧ Below w.heap.size w w' := by
  have hfd : ∀ w : World, (Instr.field 60 (.agg #[.string s, .int .i64 ((k : Int) * 8)]) 1).run Try.prog w = .ok (.int .i64 ((k : Int) * 8)) w := fun _ => by kernel_rfl
  go_enter Try.func59, Try.ntmps59
  go_wp2_with fail
  refine (refright_yes s a _ hs h0 h1).mono ?_
  rintro e w1 ⟨rfl, hb⟩
  obtain ⟨⟨c0, c1, f0, f1, cz⟩, ⟨d0, d1, g0, g1, hz⟩, H⟩ := box2_kept hb
  have H1 := Lib.hid H
  clear hb H
  go_wp2_with fail
  refine (HA.out _).mono ?_
  rintro e w2 ⟨rfl, hb⟩
  obtain ⟨c0', c1', f0', f1', cz'⟩ := Box.keep ⟨c0, c1, f0, f1, cz⟩ hb
  obtain ⟨d0', d1', g0', g1', hz'⟩ := Box.keep ⟨d0, d1, g0, g1, hz⟩ hb
  have H2 := Lib.hid (bq_trans H1.out hb)
  clear hb
  go_wp2_with fail
  exact refbytes_post (((Box.set0 ⟨d0', d1', g0', g1', hz'⟩ _).set1 _)) rfl rfl rfl rfl ⟨rfl, bq_set (bq_set H2.out _ (by simp) _) _ (by simp) _⟩
set_option maxHeartbeats 1000000 in
theorem refbytes_ok (s : ByteArray) (a : Int) (k n : Nat) (w : World) (hs : s.size ≤ 1099511627776) (h0 : 0 ≤ a) (h1 : a ≤ 8 * s.size) (hk : k + n ≤ s.size)
    (HA : Hid (∀ w, Calls Try.prog 73 #[.agg #[.string s, .int .i64 a]] w fun e w' => e = .returned (.agg #[.string s, .int .i64 ((k : Int) * 8)]) ∧ Below w.heap.size w w')) :
    Calls Try.prog 59 #[.agg #[.string s, .int .i64 a], .int .i64 n] w fun e w' => e = .returned (.tuple #[.string (s.extract k (k + n)), .agg #[.string s, .int .i64 (8 * ((k : Int) + (n : Int)))], .int .i64 0]) ∧ Below w.heap.size w w' := by
  have hfd : ∀ w : World, (Instr.field 60 (.agg #[.string s, .int .i64 ((k : Int) * 8)]) 1).run Try.prog w = .ok (.int .i64 ((k : Int) * 8)) w := fun _ => by kernel_rfl
  go_enter Try.func59, Try.ntmps59
  go_wp2_with fail
  refine (refright_yes s a _ hs h0 h1).mono ?_
  rintro e w1 ⟨rfl, hb⟩
  obtain ⟨⟨c0, c1, f0, f1, cz⟩, ⟨d0, d1, g0, g1, hz⟩, H⟩ := box2_kept hb
  have H1 := Lib.hid H
  clear hb H
  go_wp2_with fail
  refine (HA.out _).mono ?_
  rintro e w2 ⟨rfl, hb⟩
  obtain ⟨c0', c1', f0', f1', cz'⟩ := Box.keep ⟨c0, c1, f0, f1, cz⟩ hb
  obtain ⟨d0', d1', g0', g1', hz'⟩ := Box.keep ⟨d0, d1, g0, g1, hz⟩ hb
  have H2 := Lib.hid (bq_trans H1.out hb)
  clear hb
  go_wp2_with fail
  clear c0 c1 f0 f1 cz d0 d1 g0 g1 hz H1
  have b1 : (0 : Int) ≤ (k : Int) := by omega
  have b2 : (k : Int) ≤ (k : Int) + (n : Int) := by omega
  have b3 : (k : Int) + (n : Int) ≤ (s.size : Int) := by omega
  have wr1 := i64_wrap ((k : Int) + (n : Int)) (by omega) (by omega)
  have wr2 := i64_wrap (8 * ((k : Int) + (n : Int))) (by omega) (by omega)
  have tn : ((k : Int) + (n : Int)).toNat = k + n := by omega
  go_region_held3 (fun w' => w'.cell? ⟨w.heap.size, 0, none⟩ = some (.string s)) (go_keep) (fail)
  all_goals go_wp2
  exact refbytes_post ((((Box.drewN ⟨d0', d1', g0', g1', hz'⟩ _).set0 _).set1 _)) rfl rfl rfl rfl ⟨rfl, bq_set (bq_set (bq_drewN H2.out _) _ (by simp) _) _ (by simp) _⟩
theorem refbytes_any (s : ByteArray) (a n : Int) (w : World) (hs : s.size ≤ 1099511627776) :
    Calls Try.prog 59 #[.agg #[.string s, .int .i64 a], .int .i64 n] w fun e w' => e = .returned (byR s a n) ∧ Below w.heap.size w w' := by
  by_cases h : 0 ≤ a ∧ a ≤ 8 * s.size ∧ 0 ≤ n
  · obtain ⟨k, hk⟩ : ∃ k : Nat, (k : Int) = (a + 7) / 8 := ⟨((a + 7) / 8).toNat, by omega⟩
    have HA := fun w => refalign_any s a w hs
    rw [alA, if_pos ⟨h.1, h.2.1⟩, ← hk] at HA
    by_cases h2 : (s.size : Int) - (a + 7) / 8 < n
    · rw [byR_short h h2]; exact refbytes_short s a n k w hs h.1 h.2.1 h.2.2 (by omega) (by omega) (Lib.hid HA)
    · obtain ⟨N, rfl⟩ := Int.eq_ofNat_of_zero_le h.2.2
      rw [byR_ok h hk h2]; exact refbytes_ok s a k N w hs h.1 h.2.1 (by omega) (Lib.hid HA)
  · rw [byR_arg h]
    by_cases h3 : 0 ≤ a ∧ a ≤ 8 * s.size
    · exact refbytes_bad2 s a n w hs h3.1 h3.2 (by omega)
    · exact refbytes_bad1 s a n w hs (by omega)

end Go.Proofs.Ytfaipbdkkkhacaa
/- Layer 2: the greatest width of any numbers. -/
namespace Go.Proofs.Ytfaipbdkkkhacaa
open Go.RowKit
set_option linter.unusedVariables false

def mxW (zs : List Int) : Nat := zs.foldl (fun m v => max m (wd v)) 0
def mxP (zs : List Int) : Int := zs.foldl (fun m v => max m v) 0
theorem mxW_snoc (zs : List Int) (v : Int) : mxW (zs ++ [v]) = max (mxW zs) (wd v) := by simp [mxW]
theorem mxP_snoc (zs : List Int) (v : Int) : mxP (zs ++ [v]) = max (mxP zs) v := by simp [mxP]
theorem mxW_take (zs : List Int) (k : Nat) (h : k < zs.length) : mxW (zs.take (k + 1)) = max (mxW (zs.take k)) (wd zs[k]) := by
  rw [List.take_succ_eq_append_getElem h, mxW_snoc]
theorem mxP_take (zs : List Int) (k : Nat) (h : k < zs.length) : mxP (zs.take (k + 1)) = max (mxP (zs.take k)) zs[k] := by
  rw [List.take_succ_eq_append_getElem h, mxP_snoc]
def MxRel (zs : List Int) (m i : Value) : Prop := ∃ k x : Nat, k ≤ zs.length ∧ i = .int .i64 k ∧ m = .int .i64 (x : Int) ∧ x = mxW (zs.take k) ∧ x ≤ 64
def MpRel (zs : List Int) (m i : Value) : Prop := ∃ k : Nat, ∃ x : Int, k ≤ zs.length ∧ i = .int .i64 k ∧ m = .int .i64 x ∧ x = mxP (zs.take k) ∧ 0 ≤ x ∧ x ≤ 9223372036854775807
theorem max_nat (x y : Nat) : (if x < y then (y : Int) else (x : Int)) = ((max x y : Nat) : Int) := by rw [Nat.max_def]; split <;> split <;> omega
theorem max_int (x y : Int) : (if x < y then y else x) = max x y := by rw [Int.max_def]; split <;> split <;> omega
set_option maxHeartbeats 1000000 in
theorem width_list (zs : List Int) (a : Option Addr) (b o c : Nat) (w : World) (hl : zs.length ≤ 1000000) (ha : Hid (zs.length = 0 ∨ a = some ⟨b, o, none⟩)) (hz : Hid (∀ i (h : i < zs.length), -9223372036854775808 ≤ zs[i] ∧ zs[i] ≤ 9223372036854775807))
    (hc : Hid (∀ i (h : i < zs.length), w.cell? ⟨b, o + i, none⟩ = some (.int .i64 zs[i]))) :
    Calls Try.prog 35 #[.slice a zs.length c] w fun e w' => e = .returned (.int .i64 (mxW zs : Int)) ∧ w = w' := by
  go_enter Try.func35, Try.ntmps35
  go_wp2
  go_loop [3, 8] (fun m i => MxRel zs m i) (fun _ i => zs.length - (intOf i).toNat)
  case atStart => exact ⟨0, 0, by omega, rfl, rfl, rfl, by omega⟩
  case round =>
    obtain ⟨k, x, hk, rfl, rfl, hx, hx2⟩ := hrel
    have HX := Lib.hid hx
    clear hx
    by_cases hlt : k < zs.length
    · obtain rfl : a = some ⟨b, o, none⟩ := ha.out.resolve_left (by omega)
      have hcell := hc.out k hlt
      have hbd := hz.out k hlt
      have hstep := mxW_take zs k hlt
      rw [← HX.out] at hstep
      generalize zs[k] = z at *
      have hw64 := wd_le z hbd.1 hbd.2
      have HW := Lib.hid (fun w => width_any z w hbd.1 hbd.2)
      generalize wd z = y at *
      have HS := Lib.hid hstep
      clear hstep
      go_wp2_with (go_at_call 60; refine (HW.out _).mono ?_; rintro e w' ⟨rfl, rfl⟩)
      rw [max_nat]
      go_round
      case rel => exact ⟨k + 1, max x y, by omega, by go_num, rfl, HS.out.symm, by omega⟩
      case measure => simp [intOf]; omega
    · obtain rfl : k = zs.length := by omega
      have HL : Hid (mxW zs = x) := Lib.hid (by rw [HX.out, List.take_length])
      go_wp2
      go_ret
      exact ⟨ret_int (by rw [HL.out]), rfl⟩
end Go.Proofs.Ytfaipbdkkkhacaa
